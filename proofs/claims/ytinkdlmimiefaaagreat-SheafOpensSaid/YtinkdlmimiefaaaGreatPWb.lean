import Derived.Test.YtinkdlmimiefaaaGreatPWa
namespace Go.K
open Go.Proofs.Tryz
open Go.Proofs Go.RowKit
set_option linter.unusedVariables false
set_option linter.unusedSimpArgs false
set_option maxRecDepth 100000
attribute [local irreducible] Seq cw cx fl opX
theorem L99 (w0:World) (k:Int) (l:Int) (m:Option Addr) (o:Nat) (a:List Ld) (p:Option Addr) (q:Nat) (d:List Ld) (s:Option Addr) (t:Nat) (e:List Sp) (u:Int) (B:Int) (x:Int) (G:bi w0 m (al eLd a)) (H:a.length≤9223372036854775807) (I:a.length≤o) (J:bi w0 p (al eLd d)) (K:d.length≤9223372036854775807) (L:d.length≤q) (M:bi w0 s (al eSp e)) (O:e.length≤9223372036854775807) (P:e.length≤t) (N:Nat) (r:(List Ld × List Rg × Int)) (hF:F99 N k l a d e u B x=some r):bn Tryz.prog 99 [.agg (ql6 k l m a o p d q s e t u).toArray,.int .i64 B,.int .i64 x] w0 fun v w=>∃ (z0:Option Nat) (z1:Nat) (z2:List Value) (z3:Option Nat) (z4:Nat) (z5:List Value),v=.tuple #[.agg #[slv z0 r.1.length z1,slv z3 r.2.1.length z4],.int .i64 r.2.2]∧Inv [] w0 w [(z0,blk z2 30),(z3,blk z5 23)]∧Row 6 z0 r.1.length z1 z2 (al eLd r.1)∧Row 2 z3 r.2.1.length z4 z5 (al eRg r.2.1):=by
 refine az (n:=31) func99 rfl ntmps99 rfl ?_
 have hI:=Inv.start w0
 unfold F99 at hF
 refine ab (rgn rfl (ac (ca hI (ql6 k l m a o p d q s e t u) rfl fun Y w hI=>ac (bh hI [.slice none 0 0,.slice none 0 0] zeroValue132 rfl fun Z w hI=>pu (iv 0) rfl (aa (ab (rgn rfl (ac (ar hI 1 6 (ql6 k l m a o p d q s e t u) isAgg28 sizeOf28 rfl rfl rfl rfl ?_)))))))))
 refine pu (iv B) rfl (pu (iv x) rfl (bt hF (fun A S hF=>?_)))
 refine ac (bg hI 88 [.agg (ql6 k l m a o p d q s e t u).toArray,iv B,iv x] (iv A) (by kernel_rfl) (L88 _ k l m o a p q d s t e u B x (G.inv0 hI) H I (J.inv0 hI) K L (M.inv0 hI) O P N _ S) fun w hI=>pu (iv A) rfl (aa (ab (ab (rgn rfl (pu (iv A) rfl (ifE hF (fun D hF=>?_) (fun D hF=>?_))))))))
 ·
  refine ac (de rfl rfl (fun h=>absurd D h) (fun _=>?_))
  refine aa (ai rfl (ak (ab (rgn rfl (ac (ar hI 1 6 (ql6 k l m a o p d q s e t u) isAgg28 sizeOf28 rfl rfl rfl rfl ?_))))))
  refine pu (iv x) rfl (pu (.agg #[.bool true,.slice none 0 0]) (by kernel_rfl) (bt hF (fun f T hF=>?_)))
  refine ac (co 109 [.agg (ql6 k l m a o p d q s e t u).toArray,iv x,.agg #[.bool true,.slice none 0 0]] (by kernel_rfl) (L109 _ k l m o a p q d s t e u x true none 0 [] (G.inv0 hI) H I (J.inv0 hI) K L (M.inv0 hI) O P bi.nil0 (by decide) (Nat.le_refl _) N _ T) ?_)
  rintro v w ⟨g,i,U,Q,R,a0,rfl,hN,C,E⟩
  have hI:=hI.join hN; clear hN
  refine bt hF (fun j V hF=>?_)
  refine ac (co 120 [.agg #[slv g f.1.length i,slv Q f.2.length R]] (by kernel_rfl) (L120 _ (g.map fun b=>⟨b,0,none⟩) i f.1 (Q.map fun b=>⟨b,0,none⟩) R f.2 (hI.rowCells 0 rfl C) (am rfl C.big) (am rfl C.cap) (hI.rowCells 1 rfl E) (am rfl E.big) (am rfl E.cap) N _ V) ?_)
  rintro v w ⟨y,z,W,rfl,hN,X⟩
  have hI:=hI.join hN; clear hN
  refine pu (.tuple #[.agg #[slv g f.1.length i,slv y j.1.length z],.bool j.2]) rfl (pu (.agg #[slv g f.1.length i,slv y j.1.length z]) rfl (pu (.bool j.2) rfl (ac (bh hI [.slice none 0 0,.slice none 0 0] zeroValue132 rfl fun a1 w hI=>ac (aq hI 0 2 [slv g f.1.length i,slv y j.1.length z] sizeOf132 rfl rfl rfl rfl rfl (kh rfl) fun w hI=>pu (.bool j.2) rfl (aa (ab (ab (ifE hF (fun F hF=>?_) (fun F hF=>?_))))))))))
  ·
   rw [F]
   refine rgn rfl (pu kg rfl (pu kf rfl (aa (ai rfl (ak (ab (rgn rfl (ac (ar hI 0 2 [slv g f.1.length i,slv y j.1.length z] isAgg132 sizeOf132 rfl rfl rfl rfl ?_)))))))))
   refine ac (aq hI 4 2 [slv g f.1.length i,slv y j.1.length z] sizeOf132 rfl rfl rfl rfl rfl (kh rfl) fun w hI=>pu (iv 0) rfl (aa (aj ?_)))
   replace hF:=Option.some.inj hF; subst hF
   exact ⟨.tuple #[.agg #[slv g f.1.length i,slv y j.1.length z],iv 0],Ret.ct rfl rfl (ce hI 4 2 [slv g f.1.length i,slv y j.1.length z] isAgg132 sizeOf132 rfl rfl rfl) rfl,⟨g,i,U,y,z,W,rfl,hI.pk [2,1] rfl rfl,C.to rfl rfl,X.to rfl rfl⟩⟩
  rw [(Bool.eq_false_iff.2 F)]
  refine rgn rfl (pu kf rfl (pu kg rfl (aa (ah rfl (ab (rgn rfl (pu (.agg #[.slice none 0 0,.slice none 0 0]) (by kernel_rfl) (ac (aq hI 4 2 [.slice none 0 0,.slice none 0 0] sizeOf132 rfl rfl rfl rfl rfl (kh rfl) fun w hI=>pu (iv 14) rfl (aa (aj ?_)))))))))))
  have hI:=hI.nilRow 30
  have hI:=hI.nilRow 23
  replace hF:=Option.some.inj hF; subst hF
  exact ⟨.tuple #[.agg #[.slice none 0 0,.slice none 0 0],iv 14],Ret.ct rfl rfl (ce hI 6 2 [.slice none 0 0,.slice none 0 0] isAgg132 sizeOf132 rfl rfl rfl) rfl,⟨none,0,[],none,0,[],rfl,hI.pk [1,0] rfl rfl,Row.nil_ 6,Row.nil_ 2⟩⟩
 refine ac (de rfl rfl (fun _=>?_) (fun h=>absurd h D))
 refine aa (ah rfl (ab (rgn rfl (pu (.agg #[.slice none 0 0,.slice none 0 0]) (by kernel_rfl) (pu (iv A) rfl (ac (aq hI 0 2 [.slice none 0 0,.slice none 0 0] sizeOf132 rfl rfl rfl rfl rfl (kh rfl) fun w hI=>pu (iv A) rfl (aa (aj ?_)))))))))
 have hI:=hI.nilRow 30
 have hI:=hI.nilRow 23
 replace hF:=Option.some.inj hF; subst hF
 exact ⟨.tuple #[.agg #[.slice none 0 0,.slice none 0 0],iv A],Ret.ct rfl rfl (ce hI 2 2 [.slice none 0 0,.slice none 0 0] isAgg132 sizeOf132 rfl rfl rfl) rfl,⟨none,0,[],none,0,[],rfl,hI.pk [1,0] rfl rfl,Row.nil_ 6,Row.nil_ 2⟩⟩


theorem L37 (w0:World) (o:Int) (p:Int) (q:Option Addr) (s:Nat) (e:List Ld) (t:Option Addr) (u:Nat) (f:List Ld) (x:Option Addr) (y:Nat) (g:List Sp) (z:Int) (k:Int) (A:Int) (G:bi w0 q (al eLd e)) (H:e.length≤9223372036854775807) (I:e.length≤s) (J:bi w0 t (al eLd f)) (K:f.length≤9223372036854775807) (L:f.length≤u) (M:bi w0 x (al eSp g)) (O:g.length≤9223372036854775807) (P:g.length≤y) (N:Nat) (r:(Int × Int × Int)) (hF:F37 N o p e f g z k A=some r):bn Tryz.prog 37 [.agg (ql6 o p q e s t f u x g y z).toArray,.int .i64 k,.int .i64 A] w0 fun v w=>v=.tuple #[.agg #[.int .i64 r.1,.int .i64 r.2.1],.int .i64 r.2.2]∧Below w0.heap.size w0 w:=by
 refine az (n:=28) func37 rfl ntmps37 rfl ?_
 have hI:=Inv.start w0
 unfold F37 at hF
 refine ab (rgn rfl (ac (ca hI (ql6 o p q e s t f u x g y z) rfl fun W w hI=>ac (bh hI [iv 0,iv 0] zeroValue23 rfl fun X w hI=>pu (iv 0) rfl (aa (ab (rgn rfl (ac (ar hI 1 6 (ql6 o p q e s t f u x g y z) isAgg28 sizeOf28 rfl rfl rfl rfl ?_)))))))))
 refine pu (iv k) rfl (pu (iv A) rfl (bt hF (fun a Q hF=>?_)))
 refine ac (co 99 [.agg (ql6 o p q e s t f u x g y z).toArray,iv k,iv A] (by kernel_rfl) (L99 _ o p q s e t u f x y g z k A (G.inv0 hI) H I (J.inv0 hI) K L (M.inv0 hI) O P N _ Q) ?_)
 rintro v w ⟨l,m,Y,i,j,Z,rfl,hN,C,B⟩
 have hI:=hI.join hN; clear hN
 refine pu (.tuple #[.agg #[slv l a.1.length m,slv i a.2.1.length j],iv a.2.2]) rfl (pu (.agg #[slv l a.1.length m,slv i a.2.1.length j]) rfl (pu (iv a.2.2) rfl (ac (bh hI [.slice none 0 0,.slice none 0 0] zeroValue132 rfl fun R w hI=>ac (aq hI 0 2 [slv l a.1.length m,slv i a.2.1.length j] sizeOf132 rfl rfl rfl rfl rfl (kh rfl) fun w hI=>pu (iv a.2.2) rfl (aa (ab (ab (rgn rfl (pu (iv a.2.2) rfl (ifE hF (fun D hF=>?_) (fun D hF=>?_))))))))))))
 ·
  refine ac (de rfl rfl (fun h=>absurd D h) (fun _=>?_))
  refine aa (ai rfl (ak (ab (gm 7 hI (by kernel_rfl) ?_))))
  refine zp (.pointer (some ⟨R,1,none⟩)) (fun _=>rfl) (zc (slv i a.2.1.length j) (fun w hI=>ag hI 0 (slv i a.2.1.length j) isAgg130 rfl rfl rfl br) (zc (.agg #[slv l a.1.length m,slv i a.2.1.length j]) (fun w hI=>ar hI 0 2 [slv l a.1.length m,slv i a.2.1.length j] isAgg132 sizeOf132 rfl rfl rfl rfl br) (zp (iv k) (fun _=>rfl) (bt hF (fun E S hF=>?_)))))
  refine zc (iv E) (fun w hI=>co 100 [.agg #[slv l a.1.length m,slv i a.2.1.length j],iv k] (by kernel_rfl) (L100 _ (l.map fun b=>⟨b,0,none⟩) m a.1 (i.map fun b=>⟨b,0,none⟩) j a.2.1 k (hI.rowCells 1 rfl C) (am rfl C.big) (am rfl C.cap) (hI.rowCells 2 rfl B) (am rfl B.big) (am rfl B.cap) N _ S) (fun v' w' h=>h)) (gdE hF (fun T hF=>?_))
  refine bt hF (fun d F hF=>?_)
  obtain ⟨U,rfl,V⟩:=B.at_ da (by decide) F
  refine zc (.pointer (some ⟨U,(E).toNat * 2,none⟩)) (fun w hI=>be (E).toNat underlying130 sizeOf23 rfl rfl (Int.toNat_of_nonneg T).symm (fa F rfl) br) (zc (.agg #[iv d.lo,iv d.hi]) (fun w hI=>cq hI 2 [iv d.lo,iv d.hi] isAgg23 sizeOf23 rfl rfl rfl V br) (zh (fun w hI=>?_)))
  refine ac (aq hI 3 2 [iv d.lo,iv d.hi] sizeOf23 rfl rfl rfl rfl rfl (kh rfl) fun w hI=>pu (iv 0) rfl (aa (aj ?_)))
  replace hF:=Option.some.inj hF; subst hF
  exact ⟨.tuple #[.agg #[iv d.lo,iv d.hi],iv 0],Ret.ct rfl rfl (ce hI 3 2 [iv d.lo,iv d.hi] isAgg23 sizeOf23 rfl rfl rfl) rfl,⟨rfl,hI.below⟩⟩
 refine ac (de rfl rfl (fun _=>?_) (fun h=>absurd h D))
 refine aa (ah rfl (ab (rgn rfl (pu (.agg #[iv 0,iv 0]) (by kernel_rfl) (pu (iv a.2.2) rfl (ac (aq hI 3 2 [iv 0,iv 0] sizeOf23 rfl rfl rfl rfl rfl (kh rfl) fun w hI=>pu (iv a.2.2) rfl (aa (aj ?_)))))))))
 replace hF:=Option.some.inj hF; subst hF
 exact ⟨.tuple #[.agg #[iv 0,iv 0],iv a.2.2],Ret.ct rfl rfl (ce hI 3 2 [iv 0,iv 0] isAgg23 sizeOf23 rfl rfl rfl) rfl,⟨rfl,hI.below⟩⟩


theorem L110 (w0:World) (B:Int) (C:Int) (o:Option Addr) (p:Nat) (a:List Ld) (D:Option Addr) (E:Nat) (t:List Ld) (F:Option Addr) (G:Nat) (x:List Sp) (H:Int) (M:Int) (K:Option Addr) (L:Nat) (f:List Int) (e:Int) (aR:bi w0 o (al eLd a)) (b0:a.length≤9223372036854775807) (b1:a.length≤p) (b2:bi w0 D (al eLd t)) (b3:t.length≤9223372036854775807) (b4:t.length≤E) (b5:bi w0 F (al eSp x)) (b6:x.length≤9223372036854775807) (b7:x.length≤G) (b8:bi w0 K (al dv f)) (bQ:f.length≤9223372036854775807) (bR:f.length≤L) (N:Nat) (r:List Int) (hF:F110 N B C a t x H M f e=some r):bn Tryz.prog 110 [.agg (ql6 B C o a p D t E F x G H).toArray,.agg #[.int .i64 M,.slice K f.length L],.int .i64 e] w0 fun v w=>∃ (z0:Option Nat) (z1:Nat) (z2:List Value),v=slv z0 r.length z1∧Inv [] w0 w [(z0,blk z2 3)]∧Row 1 z0 r.length z1 z2 (al dv r):=by
 refine az (n:=67) func110 rfl ntmps110 rfl ?_
 have hI:=Inv.start w0
 unfold F110 at hF
 refine ab (rgn rfl (ac (ca hI (ql6 B C o a p D t E F x G H) rfl fun s w hI=>ac (ca hI [iv M,.slice K f.length L] rfl fun A w hI=>pu (.slice none 0 0) rfl (aa (ab (rgn rfl (ac (ar hI 1 6 (ql6 B C o a p D t E F x G H) isAgg28 sizeOf28 rfl rfl rfl rfl ?_)))))))))
 refine pu (iv e) rfl (bt hF (fun d b9 hF=>?_))
 refine ac (co 104 [.agg (ql6 B C o a p D t E F x G H).toArray,iv e] (by kernel_rfl) (L104 _ B C o p a D E t F G x H e (aR.inv0 hI) b0 b1 (b2.inv0 hI) b3 b4 (b5.inv0 hI) b6 b7 N _ b9) ?_)
 rintro v w ⟨aS,aT,bA,rfl,hN,bB⟩
 have hI:=hI.join hN; clear hN
 refine pu (slv aS d.length aT) rfl (aa (ab (rgn rfl (pu (.slice none 0 0) rfl (aa (ab (ab (rgn rfl (pu (iv 0) rfl ?_)))))))))
 refine aa (au ?_)
 have hI:=hI.nilRow 3
 refine cb (fun m ρ w=>∃ (S:Option Nat) (Y:Nat) (a4:List Value) (q:Option Nat) (I:Nat) (O:List Value) (g:List Int) (i:Int) (mm:Nat),cd ρ [(2,iv e),(3,.pointer (some ⟨s,0,none⟩)),(4,.pointer (some ⟨A,0,none⟩)),(7,slv S d.length Y),(8,slv q g.length I),(9,iv i)]∧Inv [] w0 w [(some s,blk (ql6 B C o a p D t E F x G H) 28),(some A,blk [iv M,.slice K f.length L] 57),(S,blk a4 30),(q,blk O 3)]∧(Row 6 S (d.length) Y a4 (al eLd d))∧(Row 1 q (g.length) I O (al dv g))∧F110l1 a f e N d mm g i=some r∧mm=m) (m:=N) ⟨aS,aT,bA,none,0,[],[],0,N,⟨rfl,rfl,rfl,rfl,rfl,rfl,trivial⟩,hI.pk [3,2,1,0] rfl rfl,(bB.to rfl rfl),(Row.nil_ 1),hF,rfl⟩ ?_
 rintro m ρ w ⟨S,Y,a4,q,I,O,g,i,mm,hag,hI,bC,aU,hF,hm⟩
 subst hm; obtain ⟨ρ,rfl⟩:=hag.form; clear hag
 obtain _ | m1:=mm
 ·cases (show (none:Option (List Int))=some r from hF)
 replace hF:F110b1 a f e N d (F110l1 a f e N d m1) g i=some r:=hF; unfold F110b1 at hF
 refine ab (ab (rgn rfl (pu (iv i) rfl (pu (slv S d.length Y) rfl (pu (iv ((d.length:Nat):Int)) (by kernel_rfl) (ifE hF (fun aG hF=>?_) (fun aG hF=>?_)))))))
 ·
  refine ac (cm rfl rfl (fun _=>?_) (fun h=>absurd aG h))
  refine aa (ah rfl (ak (dn (fun ρ w=>∃ (Z:Option Nat) (a5:Nat) (a6:List Value) (a0:Option Nat) (a7:Nat) (a8:List Value) (T:List Int),cd ρ [(2,iv e),(3,.pointer (some ⟨s,0,none⟩)),(4,.pointer (some ⟨A,0,none⟩)),(7,slv Z d.length a5),(8,slv a0 T.length a7),(9,iv i)]∧Inv [] w0 w [(some s,blk (ql6 B C o a p D t E F x G H) 28),(some A,blk [iv M,.slice K f.length L] 57),(Z,blk a6 30),(a0,blk a8 3)]∧(Row 6 Z (d.length) a5 a6 (al eLd d))∧(Row 1 a0 (T.length) a7 a8 (al dv T))∧F110j2 (F110l1 a f e N d m1) i T=some r) ?_ ?_)))
  ·
   refine au ?_
   refine ab (rgn rfl (pu (iv 0) rfl (aa (dn (fun ρ w=>∃ (a1:Option Nat) (a9:Nat) (aA:List Value) (a2:Int),cd ρ [(2,iv e),(3,.pointer (some ⟨s,0,none⟩)),(4,.pointer (some ⟨A,0,none⟩)),(7,slv a1 d.length a9),(8,slv q g.length I),(9,iv i),(10,iv a2)]∧Inv [] w0 w [(some s,blk (ql6 B C o a p D t E F x G H) 28),(some A,blk [iv M,.slice K f.length L] 57),(a1,blk aA 30),(q,blk O 3)]∧(Row 6 a1 (d.length) a9 aA (al eLd d))∧F110j3 f (F110l1 a f e N d m1) g i a2=some r) ?_ ?_))))
   ·
    refine ab (rgn rfl (pu (iv 0) rfl (aa (au ?_))))
    refine cb (fun m ρ w=>∃ (U:Option Nat) (P:Nat) (R:List Value) (J:Int) (l:Int) (mm:Nat),cd ρ [(2,iv e),(3,.pointer (some ⟨s,0,none⟩)),(4,.pointer (some ⟨A,0,none⟩)),(7,slv U d.length P),(8,slv q g.length I),(9,iv i),(10,iv J),(11,iv l)]∧Inv [] w0 w [(some s,blk (ql6 B C o a p D t E F x G H) 28),(some A,blk [iv M,.slice K f.length L] 57),(U,blk R 30),(q,blk O 3)]∧(Row 6 U (d.length) P R (al eLd d))∧F110l4 a f e (F110l1 a f e N d m1) d g i mm J l=some r∧mm=m) (m:=N) ⟨S,Y,a4,0,0,N,⟨rfl,rfl,rfl,rfl,rfl,rfl,rfl,rfl,trivial⟩,hI.pk [0,1,2,3] rfl rfl,(bC.to rfl rfl),hF,rfl⟩ ?_
    rintro m ρ w ⟨U,P,R,J,l,mm,hag,hI,aB,hF,hm⟩
    subst hm; obtain ⟨ρ,rfl⟩:=hag.form; clear hag
    obtain _ | m4:=mm
    ·cases (show (none:Option (List Int))=some r from hF)
    replace hF:F110b4 a f e (F110l1 a f e N d m1) d g i (F110l4 a f e (F110l1 a f e N d m1) d g i m4) J l=some r:=hF; unfold F110b4 at hF
    refine ab (dn (fun ρ w=>∃ (a3:Option Nat) (aC:Nat) (aD:List Value),cd ρ [(2,iv e),(3,.pointer (some ⟨s,0,none⟩)),(4,.pointer (some ⟨A,0,none⟩)),(7,slv a3 d.length aC),(8,slv q g.length I),(9,iv i),(10,iv J),(11,iv l),(39,.bool false)]∧Inv [] w0 w [(some s,blk (ql6 B C o a p D t E F x G H) 28),(some A,blk [iv M,.slice K f.length L] 57),(a3,blk aD 30),(q,blk O 3)]∧(Row 6 a3 (d.length) aC aD (al eLd d))∧F110j5 f (F110l1 a f e N d m1) g i J=some r) ?_ ?_)
    ·
     refine gm 19 hI (by kernel_rfl) ?_
     refine zp (iv l) (fun _=>rfl) (zp (.pointer (some ⟨s,2,none⟩)) (fun _=>rfl) (zc (.slice o a.length p) (fun w hI=>ag hI 0 (.slice o a.length p) isAgg24 rfl rfl rfl br) (zc (iv (a.length:Int)) (fun w hI=>kl (iv ((a.length:Nat):Int)) (by kernel_rfl) br) (ifE hF (fun aH hF=>?_) (fun aH hF=>?_)))))
     ·
      refine zc kg (fun w hI=>cm rfl rfl (fun _=>br) (fun h=>absurd aH h)) (zp kg (fun _=>rfl) (zq (.pointer (some ⟨s,2,none⟩)) rfl (fun _=>rfl) (zo (.slice o a.length p) rfl (fun w hI=>ag hI 0 (.slice o a.length p) isAgg24 rfl rfl rfl br) (zq (iv l) rfl (fun _=>rfl) (gdE hF (fun aI hF=>?_))))))
      refine bt hF (fun y aE hF=>?_)
      obtain ⟨V,W,aJ,aK,aL⟩:=aR.at_ bf (by decide) aE
      refine zo (.pointer (some ⟨V,W+(l).toNat * 6,none⟩)) rfl (fun w hI=>cn (l).toNat underlying24 sizeOf30 rfl aJ rfl (Int.toNat_of_nonneg aI).symm (fa aE rfl) br) (zq (.pointer (some ⟨V,W+(l).toNat * 6,none⟩)) rfl (fun _=>rfl) (zo (iv y.src) rfl (fun w hI=>dj hI (iv y.src) isAgg3 rfl aK (by simp) (aL 0 _ rfl) br) (zq (slv U d.length P) rfl (fun _=>rfl) (zq (iv i) rfl (fun _=>rfl) (gdE hF (fun bD hF=>?_))))))
      refine bt hF (fun aV aW hF=>?_)
      obtain ⟨X,rfl,bE⟩:=aB.at_ bf (by decide) aW
      refine zo (.pointer (some ⟨X,(i).toNat * 6,none⟩)) rfl (fun w hI=>be (i).toNat underlying24 sizeOf30 rfl rfl (Int.toNat_of_nonneg bD).symm (fa aW rfl) br) (zq (.pointer (some ⟨X,(i).toNat * 6,none⟩)) rfl (fun _=>rfl) (zo (iv aV.src) rfl (fun w hI=>db hI 2 (iv aV.src) isAgg3 rfl rfl (bE 0 _ rfl) br) (ifE hF (fun aM hF=>?_) (fun aM hF=>?_))))
      ·
       refine zo kg rfl (fun w hI=>cm rfl rfl (fun _=>br) (fun h=>absurd aM h)) (zp kg (fun _=>rfl) (zh (fun w hI=>?_)))
       refine aa (.inr ?_)
       refine ah rfl (ak (dn (fun ρ w=>∃ (aF:Int),cd ρ [(2,iv e),(3,.pointer (some ⟨s,0,none⟩)),(4,.pointer (some ⟨A,0,none⟩)),(7,slv (some X) d.length P),(8,slv q g.length I),(9,iv i),(10,iv aF),(11,iv l)]∧Inv [] w0 w [(some s,blk (ql6 B C o a p D t E F x G H) 28),(some A,blk [iv M,.slice K f.length L] 57),(some X,blk R 30),(q,blk O 3)]∧F110j6 (F110l4 a f e (F110l1 a f e N d m1) d g i m4) l aF=some r) ?_ ?_))
       ·
        refine au ?_
        refine ab (gm 14 hI (by kernel_rfl) ?_)
        refine zp (.pointer (some ⟨s,2,none⟩)) (fun _=>rfl) (zc (.slice o a.length p) (fun w hI=>ag hI 0 (.slice o a.length p) isAgg24 rfl rfl rfl br) (zp (iv l) (fun _=>rfl) (zc (.pointer (some ⟨V,W+(l).toNat * 6,none⟩)) (fun w hI=>cn (l).toNat underlying24 sizeOf30 rfl aJ rfl (Int.toNat_of_nonneg aI).symm (fa aE rfl) br) (zp (.pointer (some ⟨V,W+(l).toNat * 6+4,none⟩)) (fun _=>rfl) (zc (iv y.kn) (fun w hI=>dj hI (iv y.kn) isAgg3 rfl aK (by simp) (aL 4 _ rfl) br) (zp (.pointer (some ⟨s,2,none⟩)) (fun _=>rfl) (zc (.slice o a.length p) (fun w hI=>ag hI 0 (.slice o a.length p) isAgg24 rfl rfl rfl br) (zp (iv l) (fun _=>rfl) (zc (.pointer (some ⟨V,W+(l).toNat * 6,none⟩)) (fun w hI=>cn (l).toNat underlying24 sizeOf30 rfl aJ rfl (Int.toNat_of_nonneg aI).symm (fa aE rfl) br) ?_)))))))))
        refine zp (.pointer (some ⟨V,W+(l).toNat * 6+5,none⟩)) (fun _=>rfl) (zc (iv y.un) (fun w hI=>dj hI (iv y.un) isAgg3 rfl aK (by simp) (aL 5 _ rfl) br) (zp (iv e) (fun _=>rfl) (bt hF (fun bS aX hF=>?_))))
        refine ifE hF (fun aN hF=>?_) (fun aN hF=>?_)
        ·
         refine zc kg (fun w hI=>co 147 [iv y.kn,iv y.un,iv e] (by kernel_rfl) (bn.mono (L147 _ y.kn y.un e _ aX) (fun v' w' h=>⟨h.1.trans (congrArg Value.bool aN),h.2⟩)) (fun v' w' h=>h)) (zh (fun w hI=>?_))
         refine aa (ah rfl (rgn rfl (pu (iv J) rfl (ckE hF (fun bF hF=>?_)))))
         refine ac (cj rfl rfl bF ?_)
         refine pu (iv (J+1)) rfl (aa ?_)
         exact .inl ⟨rfl,⟨J+1,⟨rfl,rfl,rfl,rfl,rfl,rfl,rfl,rfl,trivial⟩,hI.pk [0,1,2,3] rfl rfl,hF⟩⟩
        refine zc kf (fun w hI=>co 147 [iv y.kn,iv y.un,iv e] (by kernel_rfl) (bn.mono (L147 _ y.kn y.un e _ aX) (fun v' w' h=>⟨h.1.trans (congrArg Value.bool (Bool.eq_false_iff.2 aN)),h.2⟩)) (fun v' w' h=>h)) (zh (fun w hI=>?_))
        refine aa (ai rfl (ak ?_))
        exact .inl ⟨rfl,⟨J,⟨rfl,rfl,rfl,rfl,rfl,rfl,rfl,rfl,trivial⟩,hI.pk [0,1,2,3] rfl rfl,hF⟩⟩
       intro ρ w hJ
       obtain ⟨aF,hag,hI,hF⟩:=hJ
       obtain ⟨ρ,rfl⟩:=hag.form; clear hag
       unfold F110j6 at hF
       refine rgn rfl (pu (iv l) rfl (ckE hF (fun bG hF=>?_)))
       refine ac (cj rfl rfl bG ?_)
       refine pu (iv (l+1)) rfl (aa ?_)
       exact ⟨rfl,m4,Nat.lt_succ_self _,⟨some X,P,R,aF,l+1,m4,⟨rfl,rfl,rfl,rfl,rfl,rfl,rfl,rfl,trivial⟩,hI.pk [0,1,2,3] rfl rfl,(aB.to rfl rfl),hF,rfl⟩⟩
      refine zo kf rfl (fun w hI=>cm rfl rfl (fun h=>absurd h aM) (fun _=>br)) (zp kf (fun _=>rfl) (zh (fun w hI=>?_)))
      refine aa ?_
      exact .inl ⟨rfl,⟨some X,P,R,⟨rfl,rfl,rfl,rfl,rfl,rfl,rfl,rfl,rfl,trivial⟩,hI.pk [0,1,2,3] rfl rfl,(aB.to rfl rfl),hF⟩⟩
     refine zc kf (fun w hI=>cm rfl rfl (fun h=>absurd h aH) (fun _=>br)) (zp kf (fun _=>rfl) (zf 12 rfl (zp kf (fun _=>rfl) (zh (fun w hI=>?_)))))
     refine aa ?_
     exact .inl ⟨rfl,⟨U,P,R,⟨rfl,rfl,rfl,rfl,rfl,rfl,rfl,rfl,rfl,trivial⟩,hI.pk [0,1,2,3] rfl rfl,(aB.to rfl rfl),hF⟩⟩
    intro ρ w hJ
    obtain ⟨a3,aC,aD,hag,hI,bH,hF⟩:=hJ
    obtain ⟨ρ,rfl⟩:=hag.form; clear hag
    unfold F110j5 at hF
    refine ai rfl (bw ?_)
    exact .inl ⟨rfl,⟨a3,aC,aD,J,⟨rfl,rfl,rfl,rfl,rfl,rfl,rfl,trivial⟩,hI.pk [0,1,2,3] rfl rfl,(bH.to rfl rfl),hF⟩⟩
   intro ρ w hJ
   obtain ⟨a1,a9,aA,a2,hag,hI,bI,hF⟩:=hJ
   obtain ⟨ρ,rfl⟩:=hag.form; clear hag
   unfold F110j3 at hF
   refine rgn rfl (pu (slv q g.length I) rfl (pu (.pointer (some ⟨A,1,none⟩)) rfl (ac (ag hI 1 (.slice K f.length L) isAgg41 rfl rfl rfl ?_))))
   refine pu (iv a2) rfl (gdE hF (fun bJ hF=>?_))
   refine bt hF (fun Q aY hF=>?_)
   obtain ⟨bT,bU,bK,bL,bM⟩:=b8.at_ cy (by decide) aY
   refine ac (cn (a2).toNat underlying41 sizeOf3 rfl bK rfl (Int.toNat_of_nonneg bJ).symm (fa aY rfl) ?_)
   refine ac (dj hI (iv Q) isAgg3 rfl bL (by simp) (bM 0 _ rfl) ?_)
   refine ac (fu hI [iv Q] 3 (fun b=>slv (some b) 1 1) (by kernel_rfl) fun bV w hI=>gdE hF (fun bW hF=>?_))
   refine ac (ks hI underlying41 (z:=iv 0) (k:=1) (bytes:=8) rfl rfl rfl 4 rfl rfl aU [iv Q] rfl rfl (hI.cells 0 (off:=0) rfl (fun j u h=>by rw [Nat.zero_add]; exact h)) (by simp [Value.oneCell']) (by omega) (by omega) (n2:=(g++[Q]).length) (kr rfl rfl) ?_)
   intro aO aP aZ w hI aQ
   have aQ:Row 1 aO ((g++[Q]).length) aP aZ (al dv (g++[Q])):=aQ.snoc _ rfl
   refine pu (slv aO ((g++[Q]).length) aP) rfl (aa ?_)
   exact .inl ⟨rfl,⟨a1,a9,aA,aO,aP,aZ,g++[Q],⟨rfl,rfl,rfl,rfl,rfl,rfl,trivial⟩,hI.pk [1,2,3,4] rfl rfl,(bI.to rfl rfl),(aQ.to rfl rfl),hF⟩⟩
  intro ρ w hJ
  obtain ⟨Z,a5,a6,a0,a7,a8,T,hag,hI,bN,bO,hF⟩:=hJ
  obtain ⟨ρ,rfl⟩:=hag.form; clear hag
  unfold F110j2 at hF
  refine rgn rfl (pu (iv i) rfl (ckE hF (fun bP hF=>?_)))
  refine ac (cj rfl rfl bP ?_)
  refine pu (iv (i+1)) rfl (aa ?_)
  exact ⟨rfl,m1,Nat.lt_succ_self _,⟨Z,a5,a6,a0,a7,a8,T,i+1,m1,⟨rfl,rfl,rfl,rfl,rfl,rfl,trivial⟩,hI.pk [0,1,2,3] rfl rfl,(bN.to rfl rfl),(bO.to rfl rfl),hF,rfl⟩⟩
 refine ac (cm rfl rfl (fun h=>absurd h aG) (fun _=>?_))
 refine aa (ai rfl (bw ?_))
 refine ab (rgn rfl (pu (slv q g.length I) rfl (pu (slv q g.length I) rfl (aa (aj ?_)))))
 replace hF:=Option.some.inj hF; subst hF
 exact ⟨slv q g.length I,Ret.r1 rfl rfl,⟨q,I,O,rfl,hI.pk [3] rfl rfl,aU.to rfl rfl⟩⟩


theorem L43 (w0:World) (i:Int) (j:Int) (k:Option Addr) (l:Nat) (d:List Ld) (o:Option Addr) (p:Nat) (e:List Ld) (q:Option Addr) (s:Nat) (f:List Sp) (t:Int) (y:Int) (A:Int) (K:Option Addr) (L:Nat) (z:List Int) (a2:bi w0 k (al eLd d)) (a3:d.length≤9223372036854775807) (a4:d.length≤l) (a5:bi w0 o (al eLd e)) (a6:e.length≤9223372036854775807) (a7:e.length≤p) (a8:bi w0 q (al eSp f)) (a9:f.length≤9223372036854775807) (aA:f.length≤s) (b1:bi w0 K (al dv z)) (b2:z.length≤9223372036854775807) (b3:z.length≤L) (N:Nat) (r:Int) (hF:F43 N i j d e f t y A z=some r):bn Tryz.prog 43 [.agg (ql6 i j k d l o e p q f s t).toArray,.int .i64 y,.agg #[.int .i64 A,.slice K z.length L]] w0 fun v w=>v=.int .i64 r∧Below w0.heap.size w0 w:=by
 refine az (n:=88) func43 rfl ntmps43 rfl ?_
 have hI:=Inv.start w0
 unfold F43 at hF
 refine ab (rgn rfl (ac (ca hI (ql6 i j k d l o e p q f s t) rfl fun bH w hI=>ac (ca hI [iv A,.slice K z.length L] rfl fun aP w hI=>pu (iv 0) rfl (aa (ab (rgn rfl (ac (ar hI 1 6 (ql6 i j k d l o e p q f s t) isAgg28 sizeOf28 rfl rfl rfl rfl ?_)))))))))
 refine pu (iv y) rfl (bt hF (fun Q b4 hF=>?_))
 refine ac (bg hI 88 [.agg (ql6 i j k d l o e p q f s t).toArray,iv 0,iv y] (iv Q) (by kernel_rfl) (L88 _ i j k l d o p e q s f t 0 y (a2.inv0 hI) a3 a4 (a5.inv0 hI) a6 a7 (a8.inv0 hI) a9 aA N _ b4) fun w hI=>pu (iv Q) rfl (aa (ab (ab (rgn rfl (pu (iv Q) rfl (ifE hF (fun aB hF=>?_) (fun aB hF=>?_))))))))
 ·
  refine ac (de rfl rfl (fun h=>absurd aB h) (fun _=>?_))
  refine aa (ai rfl (ak (ab (rgn rfl (ac (ar hI 1 6 (ql6 i j k d l o e p q f s t) isAgg28 sizeOf28 rfl rfl rfl rfl ?_))))))
  refine pu (iv y) rfl (pu (.agg #[.bool true,.slice none 0 0]) (by kernel_rfl) (bt hF (fun b b5 hF=>?_)))
  refine ac (co 109 [.agg (ql6 i j k d l o e p q f s t).toArray,iv y,.agg #[.bool true,.slice none 0 0]] (by kernel_rfl) (L109 _ i j k l d o p e q s f t y true none 0 [] (a2.inv0 hI) a3 a4 (a5.inv0 hI) a6 a7 (a8.inv0 hI) a9 aA bi.nil0 (by decide) (Nat.le_refl _) N _ b5) ?_)
  rintro v w ⟨aC,aD,b6,aQ,aR,b7,rfl,hN,b8,b9⟩
  have hI:=hI.join hN; clear hN
  refine ac (bh hI [.slice none 0 0,.slice none 0 0] zeroValue132 rfl fun B w hI=>ac (aq hI 0 2 [slv aC b.1.length aD,slv aQ b.2.length aR] sizeOf132 rfl rfl rfl rfl rfl (kh rfl) fun w hI=>aa (ab (ab (rgn rfl (pu (.pointer (some ⟨aP,1,none⟩)) rfl (ac (ag hI 3 (.slice K z.length L) isAgg41 rfl rfl rfl ?_))))))))
  refine pu (iv ((z.length:Nat):Int)) (by kernel_rfl) (pu (.pointer (some ⟨B,0,none⟩)) rfl (ac (ag hI 0 (slv aC b.1.length aD) isAgg24 rfl rfl rfl ?_)))
  refine pu (iv ((b.1.length:Nat):Int)) (by kernel_rfl) (ifE hF (fun aE hF=>?_) (fun aE hF=>?_))
  ·
   refine ac (de rfl rfl (fun h=>absurd aE h) (fun _=>?_))
   refine aa (ai rfl (ak (ab (rgn rfl (ac (ar hI 4 6 (ql6 i j k d l o e p q f s t) isAgg28 sizeOf28 rfl rfl rfl rfl ?_))))))
   refine ac (ar hI 3 2 [iv A,.slice K z.length L] isAgg57 sizeOf57 rfl rfl rfl rfl ?_)
   refine pu (iv y) rfl (bt hF (fun g bA hF=>?_))
   refine ac (co 110 [.agg (ql6 i j k d l o e p q f s t).toArray,.agg #[iv A,.slice K z.length L],iv y] (by kernel_rfl) (L110 _ i j k l d o p e q s f t A K L z y (a2.inv0 hI) a3 a4 (a5.inv0 hI) a6 a7 (a8.inv0 hI) a9 aA (b1.inv0 hI) b2 b3 N _ bA) ?_)
   rintro v w ⟨aS,aT,bB,rfl,hN,bC⟩
   have hI:=hI.join hN; clear hN
   refine pu (slv aS g.length aT) rfl (aa (ab (rgn rfl (pu (.pointer (some ⟨aP,0,none⟩)) rfl (ac (ag hI 4 (iv A) isAgg3 rfl rfl rfl ?_))))))
   refine pu (iv A) rfl (aa (ab (ab (rgn rfl (pu (iv 0) rfl (aa (au ?_)))))))
   refine cb (fun m ρ w=>∃ (M:Option Nat) (C:Nat) (R:List Value) (H:Option Nat) (D:Nat) (S:List Value) (O:Option Nat) (I:Nat) (T:List Value) (J:Int) (a:Int) (mm:Nat),cd ρ [(8,.pointer (some ⟨B,0,none⟩)),(9,slv O g.length I),(10,iv J),(11,iv a)]∧Inv [] w0 w [(some B,blk [slv M b.1.length C,slv H b.2.length D] 132),(M,blk R 30),(H,blk S 23),(O,blk T 3)]∧(Row 6 M (b.1.length) C R (al eLd b.1))∧(Row 2 H (b.2.length) D S (al eRg b.2))∧(Row 1 O (g.length) I T (al dv g))∧F43l1 b g mm J a=some r∧mm=m) (m:=N) ⟨aC,aD,b6,aQ,aR,b7,aS,aT,bB,A,0,N,⟨rfl,rfl,rfl,rfl,trivial⟩,hI.pk [1,2,3,0] rfl rfl,(b8.to rfl rfl),(b9.to rfl rfl),(bC.to rfl rfl),hF,rfl⟩ ?_
   rintro m ρ w ⟨M,C,R,H,D,S,O,I,T,J,a,mm,hag,hI,aF,aU,aG,hF,hm⟩
   subst hm; obtain ⟨ρ,rfl⟩:=hag.form; clear hag
   obtain _ | m1:=mm
   ·cases (show (none:Option Int)=some r from hF)
   replace hF:F43b1 b g (F43l1 b g m1) J a=some r:=hF; unfold F43b1 at hF
   refine ab (ab (rgn rfl (pu (iv a) rfl (pu (slv O g.length I) rfl (pu (iv ((g.length:Nat):Int)) (by kernel_rfl) (ifE hF (fun aH hF=>?_) (fun aH hF=>?_)))))))
   ·
    refine ac (fq rfl rfl (fun _=>?_) (fun h=>absurd aH h))
    refine aa (ah rfl (ak (ab (au ?_))))
    refine dn (fun ρ w=>∃ (U:Option Nat) (W:Nat) (X:List Value) (V:Option Nat) (Y:Nat) (Z:List Value) (E:Int),cd ρ [(8,.pointer (some ⟨B,0,none⟩)),(9,slv V g.length Y),(10,iv E),(11,iv a)]∧Inv [] w0 w [(some B,blk [slv U b.1.length W,slv H b.2.length D] 132),(U,blk X 30),(H,blk S 23),(V,blk Z 3)]∧(Row 6 U (b.1.length) W X (al eLd b.1))∧(Row 1 V (g.length) Y Z (al dv g))∧F43j2 (F43l1 b g m1) b a E=some r) ?_ ?_
    ·
     refine ab (rgn rfl (pu (iv a) rfl (ifE hF (fun aI hF=>?_) (fun aI hF=>?_))))
     ·
      refine ac (fh rfl rfl (fun _=>?_) (fun h=>absurd aI h))
      refine aa (ah rfl (ab (ab (gm 23 hI (by kernel_rfl) ?_))))
      refine zp (slv O g.length I) (fun _=>rfl) (zp (iv a) (fun _=>rfl) (ckE hF (fun a0 hF=>?_)))
      refine zc (iv (a - 1)) (fun w hI=>dm rfl rfl a0 br) (gdE hF (fun a1 hF=>?_))
      refine bt hF (fun F aJ hF=>?_)
      obtain ⟨aK,rfl,aV⟩:=aG.at_ cy (by decide) aJ
      refine zc (.pointer (some ⟨aK,((a - 1).toNat) * 1,none⟩)) (fun w hI=>be ((a - 1).toNat) underlying41 sizeOf3 rfl rfl (Int.toNat_of_nonneg a1).symm (fa aJ rfl) br) (zc (iv F) (fun w hI=>db hI 3 (iv F) isAgg3 rfl rfl (aV 0 _ rfl) br) (zp (.pointer (some ⟨B,0,none⟩)) (fun _=>rfl) (zc (slv M b.1.length C) (fun w hI=>ag hI 0 (slv M b.1.length C) isAgg24 rfl rfl rfl br) (zp (iv a) (fun _=>rfl) (zc (iv (a - 1)) (fun w hI=>dm rfl rfl a0 br) (bt hF (fun u aL hF=>?_)))))))
      obtain ⟨G,rfl,aW⟩:=aF.at_ bf (by decide) aL
      refine zc (.pointer (some ⟨G,((a - 1).toNat) * 6,none⟩)) (fun w hI=>be ((a - 1).toNat) underlying24 sizeOf30 rfl rfl (Int.toNat_of_nonneg a1).symm (fa aL rfl) br) (zp (.pointer (some ⟨G,((a - 1).toNat) * 6+2,none⟩)) (fun _=>rfl) (zp (.pointer (some ⟨G,((a - 1).toNat) * 6+2,none⟩)) (fun _=>rfl) (zc (iv u.lo) (fun w hI=>db hI 1 (iv u.lo) isAgg3 rfl rfl (aW 2 _ rfl) br) (zp (.pointer (some ⟨B,0,none⟩)) (fun _=>rfl) (zc (slv (some G) b.1.length C) (fun w hI=>ag hI 0 (slv (some G) b.1.length C) isAgg24 rfl rfl rfl br) (zp (iv a) (fun _=>rfl) (zc (iv (a - 1)) (fun w hI=>dm rfl rfl a0 br) (zc (.pointer (some ⟨G,((a - 1).toNat) * 6,none⟩)) (fun w hI=>be ((a - 1).toNat) underlying24 sizeOf30 rfl rfl (Int.toNat_of_nonneg a1).symm (fa aL rfl) br) (zp (.pointer (some ⟨G,((a - 1).toNat) * 6+2,none⟩)) (fun _=>rfl) ?_)))))))))
      refine zp (.pointer (some ⟨G,((a - 1).toNat) * 6+3,none⟩)) (fun _=>rfl) (zc (iv u.hi) (fun w hI=>db hI 1 (iv u.hi) isAgg3 rfl rfl (aW 3 _ rfl) br) (bt hF (fun bI aX hF=>?_)))
      refine ifE hF (fun aM hF=>?_) (fun aM hF=>?_)
      ·
       refine zc kg (fun w hI=>co 80 [iv F,iv u.lo,iv u.hi] (by kernel_rfl) (bn.mono (L80 _ F u.lo u.hi _ aX) (fun v' w' h=>⟨h.1.trans (congrArg Value.bool aM),h.2⟩)) (fun v' w' h=>h)) (zp kf (fun _=>rfl) (zh (fun w hI=>?_)))
       refine aa (ai rfl (ak (rgn rfl (pu (iv J) rfl (pu (slv (some aK) g.length I) rfl (pu (iv a) rfl (ac (dm rfl rfl a0 ?_))))))))
       refine ac (be ((a - 1).toNat) underlying41 sizeOf3 rfl rfl (Int.toNat_of_nonneg a1).symm (fa aJ rfl) ?_)
       refine ac (db hI 3 (iv F) isAgg3 rfl rfl (aV 0 _ rfl) ?_)
       refine ckE hF (fun bD hF=>?_)
       refine ac (dm rfl rfl bD ?_)
       refine pu (iv (J - F)) rfl (aa ?_)
       exact .inl ⟨rfl,⟨some G,C,R,some aK,I,T,J - F,⟨rfl,rfl,rfl,rfl,trivial⟩,hI.pk [0,1,2,3] rfl rfl,(aF.to rfl rfl),(aG.to rfl rfl),hF⟩⟩
      refine zc kf (fun w hI=>co 80 [iv F,iv u.lo,iv u.hi] (by kernel_rfl) (bn.mono (L80 _ F u.lo u.hi _ aX) (fun v' w' h=>⟨h.1.trans (congrArg Value.bool (Bool.eq_false_iff.2 aM)),h.2⟩)) (fun v' w' h=>h)) (zp kg (fun _=>rfl) (zh (fun w hI=>?_)))
      refine aa (ah rfl (ab (rgn rfl (pu (iv 16) rfl (aa (aj ?_))))))
      replace hF:=Option.some.inj hF; subst hF
      exact ⟨iv 16,Ret.r1 rfl rfl,⟨rfl,hI.below⟩⟩
     refine ac (fh rfl rfl (fun h=>absurd h aI) (fun _=>?_))
     refine aa (ai rfl (ak ?_))
     exact .inl ⟨rfl,⟨M,C,R,O,I,T,J,⟨rfl,rfl,rfl,rfl,trivial⟩,hI.pk [0,1,2,3] rfl rfl,(aF.to rfl rfl),(aG.to rfl rfl),hF⟩⟩
    intro ρ w hJ
    obtain ⟨U,W,X,V,Y,Z,E,hag,hI,bE,bF,hF⟩:=hJ
    obtain ⟨ρ,rfl⟩:=hag.form; clear hag
    unfold F43j2 at hF
    refine ab (gm 15 hI (by kernel_rfl) ?_)
    refine zp (iv E) (fun _=>rfl) (zp (.pointer (some ⟨B,1,none⟩)) (fun _=>rfl) (zc (slv H b.2.length D) (fun w hI=>ag hI 0 (slv H b.2.length D) isAgg130 rfl rfl rfl br) (zp (iv a) (fun _=>rfl) (gdE hF (fun aY hF=>?_)))))
    refine bt hF (fun x aN hF=>?_)
    obtain ⟨P,rfl,aZ⟩:=aU.at_ da (by decide) aN
    refine zc (.pointer (some ⟨P,(a).toNat * 2,none⟩)) (fun w hI=>be (a).toNat underlying130 sizeOf23 rfl rfl (Int.toNat_of_nonneg aY).symm (fa aN rfl) br) (zp (.pointer (some ⟨P,(a).toNat * 2,none⟩)) (fun _=>rfl) (zc (iv x.lo) (fun w hI=>db hI 2 (iv x.lo) isAgg3 rfl rfl (aZ 0 _ rfl) br) (zp (.pointer (some ⟨B,1,none⟩)) (fun _=>rfl) (zc (slv (some P) b.2.length D) (fun w hI=>ag hI 0 (slv (some P) b.2.length D) isAgg130 rfl rfl rfl br) (zp (iv a) (fun _=>rfl) (zc (.pointer (some ⟨P,(a).toNat * 2,none⟩)) (fun w hI=>be (a).toNat underlying130 sizeOf23 rfl rfl (Int.toNat_of_nonneg aY).symm (fa aN rfl) br) (zp (.pointer (some ⟨P,(a).toNat * 2+1,none⟩)) (fun _=>rfl) (zc (iv x.hi) (fun w hI=>db hI 2 (iv x.hi) isAgg3 rfl rfl (aZ 1 _ rfl) br) (bt hF (fun bJ b0 hF=>?_))))))))))
    refine ifE hF (fun aO hF=>?_) (fun aO hF=>?_)
    ·
     refine zc kg (fun w hI=>co 80 [iv E,iv x.lo,iv x.hi] (by kernel_rfl) (bn.mono (L80 _ E x.lo x.hi _ b0) (fun v' w' h=>⟨h.1.trans (congrArg Value.bool aO),h.2⟩)) (fun v' w' h=>h)) (zp kf (fun _=>rfl) (zh (fun w hI=>?_)))
     refine aa (ai rfl (ak (rgn rfl (pu (iv a) rfl (ckE hF (fun bG hF=>?_))))))
     refine ac (cj rfl rfl bG ?_)
     refine pu (iv (a+1)) rfl (aa ?_)
     exact ⟨rfl,m1,Nat.lt_succ_self _,⟨U,W,X,some P,D,S,V,Y,Z,E,a+1,m1,⟨rfl,rfl,rfl,rfl,trivial⟩,hI.pk [0,1,2,3] rfl rfl,(bE.to rfl rfl),(aU.to rfl rfl),(bF.to rfl rfl),hF,rfl⟩⟩
    refine zc kf (fun w hI=>co 80 [iv E,iv x.lo,iv x.hi] (by kernel_rfl) (bn.mono (L80 _ E x.lo x.hi _ b0) (fun v' w' h=>⟨h.1.trans (congrArg Value.bool (Bool.eq_false_iff.2 aO)),h.2⟩)) (fun v' w' h=>h)) (zp kg (fun _=>rfl) (zh (fun w hI=>?_)))
    refine aa (ah rfl (ab (rgn rfl (pu (iv 16) rfl (aa (aj ?_))))))
    replace hF:=Option.some.inj hF; subst hF
    exact ⟨iv 16,Ret.r1 rfl rfl,⟨rfl,hI.below⟩⟩
   refine ac (fq rfl rfl (fun h=>absurd h aH) (fun _=>?_))
   refine aa (ai rfl (bw ?_))
   refine ab (rgn rfl (pu (iv 0) rfl (aa (aj ?_))))
   replace hF:=Option.some.inj hF; subst hF
   exact ⟨iv 0,Ret.r1 rfl rfl,⟨rfl,hI.below⟩⟩
  refine ac (de rfl rfl (fun _=>?_) (fun h=>absurd h aE))
  refine aa (ah rfl (ab (rgn rfl (pu (iv 16) rfl (aa (aj ?_))))))
  replace hF:=Option.some.inj hF; subst hF
  exact ⟨iv 16,Ret.r1 rfl rfl,⟨rfl,hI.below⟩⟩
 refine ac (de rfl rfl (fun _=>?_) (fun h=>absurd h aB))
 refine aa (ah rfl (ab (rgn rfl (pu (iv Q) rfl (pu (iv Q) rfl (aa (aj ?_)))))))
 replace hF:=Option.some.inj hF; subst hF
 exact ⟨iv Q,Ret.r1 rfl rfl,⟨rfl,hI.below⟩⟩


theorem L108 (w0:World) (k:Int) (l:Int) (o:Option Addr) (p:Nat) (a:List Ld) (q:Option Addr) (s:Nat) (d:List Ld) (t:Option Addr) (u:Nat) (e:List Sp) (x:Int) (y:Int) (D:Option Addr) (E:Nat) (z:List Int) (f:Int) (g:Int) (O:bi w0 o (al eLd a)) (P:a.length≤9223372036854775807) (Q:a.length≤p) (R:bi w0 q (al eLd d)) (S:d.length≤9223372036854775807) (T:d.length≤s) (U:bi w0 t (al eSp e)) (V:e.length≤9223372036854775807) (W:e.length≤u) (a2:bi w0 D (al dv z)) (a3:z.length≤9223372036854775807) (a4:z.length≤E) (N:Nat) (r:Int) (hF:F108 N k l a d e x y z f g=some r):bn Tryz.prog 108 [.agg (ql6 k l o a p q d s t e u x).toArray,.agg #[.int .i64 y,.slice D z.length E],.agg #[.int .i64 f,.int .i64 g]] w0 fun v w=>v=.int .i64 r∧Below w0.heap.size w0 w:=by
 refine az (n:=38) func108 rfl ntmps108 rfl ?_
 have hI:=Inv.start w0
 unfold F108 at hF
 refine ab (rgn rfl (ac (ca hI (ql6 k l o a p q d s t e u x) rfl fun aI w hI=>ac (ca hI [iv y,.slice D z.length E] rfl fun a5 w hI=>ac (ca hI [iv f,iv g] rfl fun G w hI=>pu (iv 0) rfl (aa (ab (rgn rfl (ac (ar hI 2 6 (ql6 k l o a p q d s t e u x) isAgg28 sizeOf28 rfl rfl rfl rfl ?_))))))))))
 refine ac (ar hI 1 2 [iv y,.slice D z.length E] isAgg57 sizeOf57 rfl rfl rfl rfl ?_)
 refine pu (.pointer (some ⟨G,1,none⟩)) rfl (ac (ag hI 0 (iv g) isAgg3 rfl rfl rfl ?_))
 refine bt hF (fun B a6 hF=>?_)
 refine ac (co 110 [.agg (ql6 k l o a p q d s t e u x).toArray,.agg #[iv y,.slice D z.length E],iv g] (by kernel_rfl) (L110 _ k l o p a q s d t u e x y D E z g (O.inv0 hI) P Q (R.inv0 hI) S T (U.inv0 hI) V W (a2.inv0 hI) a3 a4 N _ a6) ?_)
 rintro v w ⟨X,Y,a7,rfl,hN,a8⟩
 have hI:=hI.join hN; clear hN
 refine pu (slv X B.length Y) rfl (aa (ab (rgn rfl (ac (ar hI 3 6 (ql6 k l o a p q d s t e u x) isAgg28 sizeOf28 rfl rfl rfl rfl ?_)))))
 refine pu (.pointer (some ⟨G,1,none⟩)) rfl (ac (ag hI 1 (iv g) isAgg3 rfl rfl rfl ?_))
 refine bt hF (fun A a9 hF=>?_)
 refine ac (co 104 [.agg (ql6 k l o a p q d s t e u x).toArray,iv g] (by kernel_rfl) (L104 _ k l o p a q s d t u e x g (O.inv0 hI) P Q (R.inv0 hI) S T (U.inv0 hI) V W N _ a9) ?_)
 rintro v w ⟨C,F,aA,rfl,hN,K⟩
 have hI:=hI.join hN; clear hN
 refine pu (.agg #[slv C A.length F,.slice none 0 0]) (by kernel_rfl) (ac (bh hI [.slice none 0 0,.slice none 0 0] zeroValue132 rfl fun Z w hI=>ac (aq hI 0 2 [slv C A.length F,.slice none 0 0] sizeOf132 rfl rfl rfl rfl rfl (kh rfl) fun w hI=>aa (ab (rgn rfl (pu (.pointer (some ⟨a5,0,none⟩)) rfl (ac (ag hI 4 (iv y) isAgg3 rfl rfl rfl ?_))))))))
 refine pu (iv y) rfl (aa (ab (ab (rgn rfl (pu (iv 0) rfl (aa (au ?_)))))))
 refine cb (fun m ρ w=>∃ (H:Option Nat) (I:Nat) (J:List Value) (i:Int) (j:Int) (mm:Nat),cd ρ [(5,.pointer (some ⟨G,0,none⟩)),(7,slv H B.length I),(8,.pointer (some ⟨Z,0,none⟩)),(9,iv i),(10,iv j)]∧Inv [] w0 w [(some G,blk [iv f,iv g] 65),(H,blk J 3),(some Z,blk [slv C A.length F,.slice none 0 0] 132),(C,blk aA 30)]∧(Row 1 H (B.length) I J (al dv B))∧F108l1 f N B A mm i j=some r∧mm=m) (m:=N) ⟨X,Y,a7,y,0,N,⟨rfl,rfl,rfl,rfl,rfl,trivial⟩,hI.pk [3,2,0,1] rfl rfl,(a8.to rfl rfl),hF,rfl⟩ ?_
 rintro m ρ w ⟨H,I,J,i,j,mm,hag,hI,a0,hF,hm⟩
 subst hm; obtain ⟨ρ,rfl⟩:=hag.form; clear hag
 obtain _ | m1:=mm
 ·cases (show (none:Option Int)=some r from hF)
 replace hF:F108b1 f N B A (F108l1 f N B A m1) i j=some r:=hF; unfold F108b1 at hF
 refine ab (ab (rgn rfl (pu (iv j) rfl (ac (ar hI 2 2 [slv C A.length F,.slice none 0 0] isAgg132 sizeOf132 rfl rfl rfl rfl ?_)))))
 refine pu (.pointer (some ⟨G,0,none⟩)) rfl (ac (ag hI 0 (iv f) isAgg3 rfl rfl rfl ?_))
 refine bt hF (fun aB aC hF=>?_)
 refine ac (bg hI 100 [.agg #[slv C A.length F,.slice none 0 0],iv f] (iv aB) (by kernel_rfl) (L100 _ (C.map fun b=>⟨b,0,none⟩) F A none 0 [] f (hI.rowCells 3 rfl K) (am rfl K.big) (am rfl K.cap) bi.nil0 (by decide) (Nat.le_refl _) N _ aC) fun w hI=>ifE hF (fun L hF=>?_) (fun L hF=>?_))
 ·
  refine ac (cm rfl rfl (fun _=>?_) (fun h=>absurd L h))
  refine aa (ah rfl (ak (ab (au ?_))))
  refine rgn rfl (pu (iv i) rfl (pu (slv H B.length I) rfl (pu (iv j) rfl (gdE hF (fun aD hF=>?_)))))
  refine bt hF (fun M a1 hF=>?_)
  obtain ⟨aE,rfl,aF⟩:=a0.at_ cy (by decide) a1
  refine ac (be (j).toNat underlying41 sizeOf3 rfl rfl (Int.toNat_of_nonneg aD).symm (fa a1 rfl) ?_)
  refine ac (db hI 1 (iv M) isAgg3 rfl rfl (aF 0 _ rfl) ?_)
  refine ckE hF (fun aG hF=>?_)
  refine ac (dm rfl rfl aG ?_)
  refine pu (iv (i - M)) rfl (aa (rgn rfl (pu (iv j) rfl (ckE hF (fun aH hF=>?_)))))
  refine ac (cj rfl rfl aH ?_)
  refine pu (iv (j+1)) rfl (aa ?_)
  exact ⟨rfl,m1,Nat.lt_succ_self _,⟨some aE,I,J,i - M,j+1,m1,⟨rfl,rfl,rfl,rfl,rfl,trivial⟩,hI.pk [0,1,2,3] rfl rfl,(a0.to rfl rfl),hF,rfl⟩⟩
 refine ac (cm rfl rfl (fun h=>absurd h L) (fun _=>?_))
 refine aa (ai rfl (bw ?_))
 refine ab (rgn rfl (pu (iv i) rfl (pu (iv i) rfl (aa (aj ?_)))))
 replace hF:=Option.some.inj hF; subst hF
 exact ⟨iv i,Ret.r1 rfl rfl,⟨rfl,hI.below⟩⟩


theorem L41 (w0:World) (e:Int) (f:Int) (g:Option Addr) (i:Nat) (a:List Ld) (j:Option Addr) (k:Nat) (b:List Ld) (l:Option Addr) (m:Nat) (d:List Sp) (o:Int) (s:Int) (t:Option Addr) (u:Nat) (p:List Int) (x:Int) (q:Int) (z:bi w0 g (al eLd a)) (A:a.length≤9223372036854775807) (B:a.length≤i) (C:bi w0 j (al eLd b)) (D:b.length≤9223372036854775807) (E:b.length≤k) (F:bi w0 l (al eSp d)) (G:d.length≤9223372036854775807) (H:d.length≤m) (M:bi w0 t (al dv p)) (O:p.length≤9223372036854775807) (P:p.length≤u) (N:Nat) (r:(Int × Int)) (hF:F41 N e f a b d o s p x q=some r):bn Tryz.prog 41 [.agg (ql6 e f g a i j b k l d m o).toArray,.agg #[.int .i64 s,.slice t p.length u],.agg #[.int .i64 x,.int .i64 q]] w0 fun v w=>v=.tuple #[.int .i64 r.1,.int .i64 r.2]∧Below w0.heap.size w0 w:=by
 refine az (n:=28) func41 rfl ntmps41 rfl ?_
 have hI:=Inv.start w0
 unfold F41 at hF
 refine ab (rgn rfl (ac (ca hI (ql6 e f g a i j b k l d m o) rfl fun U w hI=>ac (ca hI [iv s,.slice t p.length u] rfl fun V w hI=>ac (ca hI [iv x,iv q] rfl fun I w hI=>pu (iv 0) rfl (pu (iv 0) rfl (aa (ab (rgn rfl (ac (ar hI 2 6 (ql6 e f g a i j b k l d m o) isAgg28 sizeOf28 rfl rfl rfl rfl ?_)))))))))))
 refine pu (.pointer (some ⟨I,0,none⟩)) rfl (ac (ag hI 0 (iv x) isAgg3 rfl rfl rfl ?_))
 refine pu (.pointer (some ⟨I,1,none⟩)) rfl (ac (ag hI 0 (iv q) isAgg3 rfl rfl rfl ?_))
 refine bt hF (fun y Q hF=>?_)
 refine ac (bg hI 88 [.agg (ql6 e f g a i j b k l d m o).toArray,iv x,iv q] (iv y) (by kernel_rfl) (L88 _ e f g i a j k b l m d o x q (z.inv0 hI) A B (C.inv0 hI) D E (F.inv0 hI) G H N _ Q) fun w hI=>pu (iv y) rfl (aa (ab (ab (rgn rfl (pu (iv y) rfl (ifE hF (fun J hF=>?_) (fun J hF=>?_))))))))
 ·
  refine ac (de rfl rfl (fun h=>absurd J h) (fun _=>?_))
  refine aa (ai rfl (ak (ab (ab (rgn rfl (ac (ar hI 2 6 (ql6 e f g a i j b k l d m o) isAgg28 sizeOf28 rfl rfl rfl rfl ?_)))))))
  refine pu (.pointer (some ⟨I,1,none⟩)) rfl (ac (ag hI 0 (iv q) isAgg3 rfl rfl rfl ?_))
  refine ac (ar hI 1 2 [iv s,.slice t p.length u] isAgg57 sizeOf57 rfl rfl rfl rfl ?_)
  refine bt hF (fun R S hF=>?_)
  refine ac (bg hI 43 [.agg (ql6 e f g a i j b k l d m o).toArray,iv q,.agg #[iv s,.slice t p.length u]] (iv R) (by kernel_rfl) (L43 _ e f g i a j k b l m d o q s t u p (z.inv0 hI) A B (C.inv0 hI) D E (F.inv0 hI) G H (M.inv0 hI) O P N _ S) fun w hI=>ifE hF (fun K hF=>?_) (fun K hF=>?_))
  ·
   refine ac (de rfl rfl (fun h=>absurd K h) (fun _=>?_))
   refine aa (ai rfl (ak (ab (rgn rfl (ac (ar hI 2 6 (ql6 e f g a i j b k l d m o) isAgg28 sizeOf28 rfl rfl rfl rfl ?_))))))
   refine ac (ar hI 1 2 [iv s,.slice t p.length u] isAgg57 sizeOf57 rfl rfl rfl rfl ?_)
   refine ac (ar hI 0 2 [iv x,iv q] isAgg65 sizeOf65 rfl rfl rfl rfl ?_)
   refine bt hF (fun L T hF=>?_)
   refine ac (bg hI 108 [.agg (ql6 e f g a i j b k l d m o).toArray,.agg #[iv s,.slice t p.length u],.agg #[iv x,iv q]] (iv L) (by kernel_rfl) (L108 _ e f g i a j k b l m d o s t u p x q (z.inv0 hI) A B (C.inv0 hI) D E (F.inv0 hI) G H (M.inv0 hI) O P N _ T) fun w hI=>pu (iv L) rfl (pu (iv 0) rfl (aa (aj ?_))))
   replace hF:=Option.some.inj hF; subst hF
   exact ⟨.tuple #[iv L,iv 0],Ret.r2 rfl rfl rfl,⟨rfl,hI.below⟩⟩
  refine ac (de rfl rfl (fun _=>?_) (fun h=>absurd h K))
  refine aa (ah rfl (ab (rgn rfl (pu (iv 0) rfl (pu (iv 16) rfl (aa (aj ?_)))))))
  replace hF:=Option.some.inj hF; subst hF
  exact ⟨.tuple #[iv 0,iv 16],Ret.r2 rfl rfl rfl,⟨rfl,hI.below⟩⟩
 refine ac (de rfl rfl (fun _=>?_) (fun h=>absurd h J))
 refine aa (ah rfl (ab (rgn rfl (pu (iv y) rfl (pu (iv 0) rfl (pu (iv y) rfl (aa (aj ?_))))))))
 replace hF:=Option.some.inj hF; subst hF
 exact ⟨.tuple #[iv 0,iv y],Ret.r2 rfl rfl rfl,⟨rfl,hI.below⟩⟩


theorem L46 (w0:World) (f:Int) (g:Int) (i:Option Addr) (j:Nat) (b:List Ld) (k:Option Addr) (l:Nat) (d:List Ld) (m:Option Addr) (o:Nat) (e:List Sp) (p:Int) (q:Int) (s:Int) (z:bi w0 i (al eLd b)) (A:b.length≤9223372036854775807) (B:b.length≤j) (C:bi w0 k (al eLd d)) (D:d.length≤9223372036854775807) (E:d.length≤l) (F:bi w0 m (al eSp e)) (G:e.length≤9223372036854775807) (H:e.length≤o) (N:Nat) (r:(Int × Int)) (hF:F46 N f g b d e p q s=some r):bn Tryz.prog 46 [.agg (ql6 f g i b j k d l m e o p).toArray,.int .i64 q,.int .i64 s] w0 fun v w=>v=.tuple #[.int .i64 r.1,.int .i64 r.2]∧Below w0.heap.size w0 w:=by
 refine az (n:=26) func46 rfl ntmps46 rfl ?_
 have hI:=Inv.start w0
 unfold F46 at hF
 refine ab (rgn rfl (ac (ca hI (ql6 f g i b j k d l m e o p) rfl fun b8 w hI=>pu (iv 0) rfl (pu (iv 0) rfl (aa (ab (rgn rfl (ac (ar hI 0 6 (ql6 f g i b j k d l m e o p) isAgg28 sizeOf28 rfl rfl rfl rfl ?_)))))))))
 refine pu (iv q) rfl (pu (iv s) rfl (bt hF (fun a I hF=>?_)))
 refine ac (bg hI 37 [.agg (ql6 f g i b j k d l m e o p).toArray,iv q,iv s] (.tuple #[.agg #[iv a.1,iv a.2.1],iv a.2.2]) (by kernel_rfl) (L37 _ f g i j b k l d m o e p q s (z.inv0 hI) A B (C.inv0 hI) D E (F.inv0 hI) G H N _ I) fun w hI=>pu (.tuple #[.agg #[iv a.1,iv a.2.1],iv a.2.2]) rfl (pu (.agg #[iv a.1,iv a.2.1]) rfl (pu (iv a.2.2) rfl (ac (bh hI [iv 0,iv 0] zeroValue23 rfl fun y w hI=>ac (aq hI 0 2 [iv a.1,iv a.2.1] sizeOf23 rfl rfl rfl rfl rfl (kh rfl) fun w hI=>pu (iv a.2.2) rfl (aa (ab (ab (rgn rfl (pu (iv a.2.2) rfl (ifE hF (fun t hF=>?_) (fun t hF=>?_)))))))))))))
 ·
  refine ac (de rfl rfl (fun h=>absurd t h) (fun _=>?_))
  refine aa (ai rfl (ak (ab (ab (rgn rfl (pu (.pointer (some ⟨y,1,none⟩)) rfl (ac (ag hI 0 (iv a.2.1) isAgg3 rfl rfl rfl ?_))))))))
  refine ifE hF (fun u hF=>?_) (fun u hF=>?_)
  ·
   refine ac (di rfl rfl (fun _=>?_) (fun h=>absurd u h))
   refine aa (ah rfl (ab (rgn rfl (pu (iv 1) rfl (pu (iv 0) rfl (aa (aj ?_)))))))
   replace hF:=Option.some.inj hF; subst hF
   exact ⟨.tuple #[iv 1,iv 0],Ret.r2 rfl rfl rfl,⟨rfl,hI.below⟩⟩
  refine ac (di rfl rfl (fun h=>absurd h u) (fun _=>?_))
  refine aa (ai rfl (ak (ab (ab (rgn rfl (pu (.pointer (some ⟨y,0,none⟩)) rfl (ac (ag hI 0 (iv a.1) isAgg3 rfl rfl rfl ?_))))))))
  refine ifE hF (fun x hF=>?_) (fun x hF=>?_)
  ·
   refine ac (fh rfl rfl (fun _=>?_) (fun h=>absurd x h))
   refine aa (ah rfl (ab (rgn rfl (pu (iv 0) rfl (pu (iv 0) rfl (aa (aj ?_)))))))
   replace hF:=Option.some.inj hF; subst hF
   exact ⟨.tuple #[iv 0,iv 0],Ret.r2 rfl rfl rfl,⟨rfl,hI.below⟩⟩
  refine ac (fh rfl rfl (fun h=>absurd h x) (fun _=>?_))
  refine aa (ai rfl (ak (ab (rgn rfl (pu (iv 2) rfl (pu (iv 0) rfl (aa (aj ?_))))))))
  replace hF:=Option.some.inj hF; subst hF
  exact ⟨.tuple #[iv 2,iv 0],Ret.r2 rfl rfl rfl,⟨rfl,hI.below⟩⟩
 refine ac (de rfl rfl (fun _=>?_) (fun h=>absurd h t))
 refine aa (ah rfl (ab (rgn rfl (pu (iv a.2.2) rfl (pu (iv 0) rfl (pu (iv a.2.2) rfl (aa (aj ?_))))))))
 replace hF:=Option.some.inj hF; subst hF
 exact ⟨.tuple #[iv 0,iv a.2.2],Ret.r2 rfl rfl rfl,⟨rfl,hI.below⟩⟩


theorem L48 (w0:World) (B:Int) (C:Int) (D:Option Addr) (E:Nat) (u:List Ld) (F:Option Addr) (G:Nat) (x:List Ld) (H:Option Addr) (I:Nat) (z:List Sp) (J:Int) (P:Int) (aI:bi w0 D (al eLd u)) (aJ:u.length≤9223372036854775807) (aK:u.length≤E) (aL:bi w0 F (al eLd x)) (aM:x.length≤9223372036854775807) (aN:x.length≤G) (aO:bi w0 H (al eSp z)) (aP:z.length≤9223372036854775807) (aQ:z.length≤I) (N:Nat) (r:(Int × Int × Int)) (hF:F48 N B C u x z J P=some r):bn Tryz.prog 48 [.agg (ql6 B C D u E F x G H z I J).toArray,.int .i64 P] w0 fun v w=>v=.tuple #[.agg #[.int .i64 r.1,.int .i64 r.2.1],.int .i64 r.2.2]∧Below w0.heap.size w0 w:=by
 refine az (n:=57) func48 rfl ntmps48 rfl ?_
 have hI:=Inv.start w0
 unfold F48 at hF
 refine ab (rgn rfl (ac (ca hI (ql6 B C D u E F x G H z I J) rfl fun b5 w hI=>ac (bh hI [iv 0,iv 0] zeroValue23 rfl fun s w hI=>pu (iv 0) rfl (aa (ab (rgn rfl (ac (ar hI 1 6 (ql6 B C D u E F x G H z I J) isAgg28 sizeOf28 rfl rfl rfl rfl ?_)))))))))
 refine pu (iv P) rfl (bt hF (fun a aR hF=>?_))
 refine ac (co 99 [.agg (ql6 B C D u E F x G H z I J).toArray,iv 0,iv P] (by kernel_rfl) (L99 _ B C D E u F G x H I z J 0 P (aI.inv0 hI) aJ aK (aL.inv0 hI) aM aN (aO.inv0 hI) aP aQ N _ aR) ?_)
 rintro v w ⟨Q,R,aS,Y,Z,aT,rfl,hN,aU,aV⟩
 have hI:=hI.join hN; clear hN
 refine pu (.tuple #[.agg #[slv Q a.1.length R,slv Y a.2.1.length Z],iv a.2.2]) rfl (pu (.agg #[slv Q a.1.length R,slv Y a.2.1.length Z]) rfl (pu (iv a.2.2) rfl (ac (bh hI [.slice none 0 0,.slice none 0 0] zeroValue132 rfl fun i w hI=>ac (aq hI 0 2 [slv Q a.1.length R,slv Y a.2.1.length Z] sizeOf132 rfl rfl rfl rfl rfl (kh rfl) fun w hI=>pu (iv a.2.2) rfl (aa (ab (ab (rgn rfl (pu (iv a.2.2) rfl (ifE hF (fun a7 hF=>?_) (fun a7 hF=>?_))))))))))))
 ·
  refine ac (de rfl rfl (fun h=>absurd a7 h) (fun _=>?_))
  refine aa (ai rfl (ak (ab (rgn rfl (pu (.agg #[iv 100000,iv 100000]) (by kernel_rfl) (ac (bh hI [iv 0,iv 0] zeroValue23 rfl fun p w hI=>ac (aq hI 0 2 [iv 100000,iv 100000] sizeOf23 rfl rfl rfl rfl rfl (kh rfl) fun w hI=>aa (ab (ab (rgn rfl (pu (.pointer (some ⟨i,0,none⟩)) rfl (ac (ag hI 1 (slv Q a.1.length R) isAgg24 rfl rfl rfl ?_))))))))))))))
  refine pu (iv ((a.1.length:Nat):Int)) (by kernel_rfl) (pu (iv (a.1.length:Int)) rfl (aa (au ?_)))
  refine cb (fun m ρ w=>∃ (K:Option Nat) (L:Nat) (S:List Value) (M:Option Nat) (g:Nat) (t:List Value) (q:Int) (l:Int) (d:Int) (mm:Nat),cd ρ [(4,.pointer (some ⟨s,0,none⟩)),(6,.pointer (some ⟨i,0,none⟩)),(8,.pointer (some ⟨p,0,none⟩)),(9,iv d)]∧Inv [] w0 w [(some s,blk [iv 0,iv 0] 23),(some i,blk [slv K a.1.length L,slv M a.2.1.length g] 132),(K,blk S 30),(M,blk t 23),(some p,blk [iv q,iv l] 23)]∧(Row 6 K (a.1.length) L S (al eLd a.1))∧(Row 2 M (a.2.1.length) g t (al eRg a.2.1))∧F48l1 N a mm q l d=some r∧mm=m) (m:=N) ⟨Q,R,aS,Y,Z,aT,100000,100000,(a.1.length:Int),N,⟨rfl,rfl,rfl,rfl,trivial⟩,hI.pk [4,1,2,3,0] rfl rfl,(aU.to rfl rfl),(aV.to rfl rfl),hF,rfl⟩ ?_
  rintro m ρ w ⟨K,L,S,M,g,t,q,l,d,mm,hag,hI,a8,O,hF,hm⟩
  subst hm; obtain ⟨ρ,rfl⟩:=hag.form; clear hag
  obtain _ | m1:=mm
  ·cases (show (none:Option (Int × Int × Int))=some r from hF)
  replace hF:F48b1 N a (F48l1 N a m1) q l d=some r:=hF; unfold F48b1 at hF
  refine ab (ab (rgn rfl (pu (iv d) rfl (ifE hF (fun a9 hF=>?_) (fun a9 hF=>?_)))))
  ·
   refine ac (iq rfl rfl (fun _=>?_) (fun h=>absurd a9 h))
   refine aa (ah rfl (ak (dn (fun ρ w=>∃ (T:Option Nat) (a0:Nat) (a1:List Value) (U:Option Nat) (a2:Nat) (a3:List Value) (a4:Int) (a5:Int),cd ρ [(4,.pointer (some ⟨s,0,none⟩)),(6,.pointer (some ⟨i,0,none⟩)),(8,.pointer (some ⟨p,0,none⟩)),(9,iv d)]∧Inv [] w0 w [(some s,blk [iv 0,iv 0] 23),(some i,blk [slv T a.1.length a0,slv U a.2.1.length a2] 132),(T,blk a1 30),(U,blk a3 23),(some p,blk [iv a4,iv a5] 23)]∧(Row 6 T (a.1.length) a0 a1 (al eLd a.1))∧(Row 2 U (a.2.1.length) a2 a3 (al eRg a.2.1))∧F48j2 (F48l1 N a m1) d a4 a5=some r) ?_ ?_)))
   ·
    refine au ?_
    refine ab (rgn rfl (pu (iv 0) rfl (aa (dn (fun ρ w=>∃ (e:Option Nat) (o:Nat) (A:List Value) (j:Int),cd ρ [(4,.pointer (some ⟨s,0,none⟩)),(6,.pointer (some ⟨i,0,none⟩)),(8,.pointer (some ⟨p,0,none⟩)),(9,iv d),(10,iv j)]∧Inv [] w0 w [(some s,blk [iv 0,iv 0] 23),(some i,blk [slv e a.1.length o,slv M a.2.1.length g] 132),(e,blk A 30),(M,blk t 23),(some p,blk [iv q,iv l] 23)]∧(Row 6 e (a.1.length) o A (al eLd a.1))∧F48j3 N (F48l1 N a m1) a q l d j=some r) ?_ ?_))))
    ·
     refine ab (rgn rfl (pu (iv d) rfl (ifE hF (fun aA hF=>?_) (fun aA hF=>?_))))
     ·
      refine ac (fh rfl rfl (fun _=>?_) (fun h=>absurd aA h))
      refine aa (ah rfl (rgn rfl (pu (.pointer (some ⟨i,0,none⟩)) rfl (ac (ag hI 1 (slv K a.1.length L) isAgg24 rfl rfl rfl ?_)))))
      refine pu (iv d) rfl (ckE hF (fun aW hF=>?_))
      refine ac (dm rfl rfl aW ?_)
      refine gdE hF (fun aX hF=>?_)
      refine bt hF (fun aB aF hF=>?_)
      obtain ⟨aG,rfl,aY⟩:=a8.at_ bf (by decide) aF
      refine ac (be ((d - 1).toNat) underlying24 sizeOf30 rfl rfl (Int.toNat_of_nonneg aX).symm (fa aF rfl) ?_)
      refine pu (.pointer (some ⟨aG,((d - 1).toNat) * 6+1,none⟩)) rfl (ac (db hI 2 (iv aB.hr) isAgg3 rfl rfl (aY 1 _ rfl) ?_))
      refine pu (iv aB.hr) rfl (aa ?_)
      exact .inl ⟨rfl,⟨some aG,L,S,aB.hr,⟨rfl,rfl,rfl,rfl,rfl,trivial⟩,hI.pk [0,1,2,3,4] rfl rfl,(a8.to rfl rfl),hF⟩⟩
     refine ac (fh rfl rfl (fun h=>absurd h aA) (fun _=>?_))
     refine aa (ai rfl (ak ?_))
     exact .inl ⟨rfl,⟨K,L,S,0,⟨rfl,rfl,rfl,rfl,rfl,trivial⟩,hI.pk [0,1,2,3,4] rfl rfl,(a8.to rfl rfl),hF⟩⟩
    intro ρ w hJ
    obtain ⟨e,o,A,j,hag,hI,V,hF⟩:=hJ
    obtain ⟨ρ,rfl⟩:=hag.form; clear hag
    unfold F48j3 at hF
    refine ab (bt hF (fun aC aZ hF=>?_))
    refine gdE hF (fun b0 hF=>?_)
    refine bt hF (fun k aH hF=>?_)
    obtain ⟨f,rfl,b1⟩:=O.at_ da (by decide) aH
    refine kx [tv (fun _=>(.pointer (some ⟨i,1,none⟩))),tr (fun _=>(slv (some f) a.2.1.length g)) [10],tr (fun _=>(.agg #[slv e a.1.length o,slv (some f) a.2.1.length g])) [10],tv (fun _=>(iv j)),tr (fun _=>(iv aC)) [11,12],tr (fun _=>(.pointer (some ⟨f,(aC).toNat * 2,none⟩))) [],tr (fun _=>(.agg #[iv k.lo,iv k.hi])) [12],tal 7 [iv 0,iv 0] 23,tst (fun y=>[(some (y 7).b,blk [iv k.lo,iv k.hi] 23)]) 7] (fun y=>[(4,.pointer (some ⟨s,0,none⟩)),(6,.pointer (some ⟨i,0,none⟩)),(8,.pointer (some ⟨p,0,none⟩)),(9,iv d),(10,iv j),(11,.pointer (some ⟨(y 7).b,0,none⟩))]) (fun y=>[(some (y 7).b,blk [iv k.lo,iv k.hi] 23),(some s,blk [iv 0,iv 0] 23),(some i,blk [slv e a.1.length o,slv (some f) a.2.1.length g] 132),(e,blk A 30),(some f,blk t 23),(some p,blk [iv q,iv l] 23)]) hI (by kernel_rfl) (fun y=>⟨rfl,rfl⟩) (fun y=>?_) ?_
    ·
     refine tp rfl (fun _=>rfl) (tl1 [(some i,blk [slv e a.1.length o,slv (some f) a.2.1.length g] 132)] rfl rfl (fun X w hI=>ag hI 0 (slv (some f) a.2.1.length g) isAgg130 rfl rfl rfl br) (tl1 [(some i,blk [slv e a.1.length o,slv (some f) a.2.1.length g] 132)] rfl rfl (fun X w hI=>ar hI 0 2 [slv e a.1.length o,slv (some f) a.2.1.length g] isAgg132 sizeOf132 rfl rfl rfl rfl br) (tp rfl (fun _=>rfl) (tl1 [(e,blk A 30),(some f,blk t 23)] rfl rfl (fun X w hI=>co 100 [.agg #[slv e a.1.length o,slv (some f) a.2.1.length g],iv j] (by kernel_rfl) (L100 _ (e.map fun b=>⟨b,0,none⟩) o a.1 ((some f).map fun b=>⟨b,0,none⟩) g a.2.1 j (hI.rowCells 0 rfl V) (am rfl V.big) (am rfl V.cap) (hI.rowCells 1 rfl O) (am rfl O.big) (am rfl O.cap) N _ aZ) (fun v' w' h=>h)) (tl0 rfl (fun X w hI=>be (aC).toNat underlying130 sizeOf23 rfl rfl (Int.toNat_of_nonneg b0).symm (fa aH rfl) br) (tl1 [(some f,blk t 23)] rfl rfl (fun X w hI=>cq hI 0 [iv k.lo,iv k.hi] isAgg23 sizeOf23 rfl rfl rfl b1 br) (tA rfl zeroValue23 rfl (tS [(some (y 7).b,blk [iv 0,iv 0] 23)] rfl ⟨rfl,rfl⟩ (fun X w hI=>aq hI 0 2 [iv k.lo,iv k.hi] sizeOf23 rfl rfl rfl rfl rfl (kh rfl) fun w hI=>⟨rfl,hI.castL rfl⟩) ?_))))))))
     exact tn
    intro y hp ρ w hag hI
    clear hp
    generalize (y 7).b=a6 at *
    obtain ⟨ρ,rfl⟩:=hag.form; clear hag
    refine dn (fun ρ w=>∃ (W:Int),cd ρ [(4,.pointer (some ⟨s,0,none⟩)),(6,.pointer (some ⟨i,0,none⟩)),(8,.pointer (some ⟨p,0,none⟩)),(9,iv d),(10,iv j),(11,.pointer (some ⟨a6,0,none⟩))]∧Inv [] w0 w [(some s,blk [iv 0,iv 0] 23),(some i,blk [slv e a.1.length o,slv (some f) a.2.1.length g] 132),(e,blk A 30),(some f,blk t 23),(some p,blk [iv W,iv l] 23),(some a6,blk [iv k.lo,iv k.hi] 23)]∧F48j4 (F48l1 N a m1) l d j k W=some r) ?_ ?_
    ·
     refine ab (rgn rfl (pu (.pointer (some ⟨a6,0,none⟩)) rfl (ac (ag hI 0 (iv k.lo) isAgg3 rfl rfl rfl ?_))))
     refine ifE hF (fun aD hF=>?_) (fun aD hF=>?_)
     ·
      refine ac (di rfl rfl (fun _=>?_) (fun h=>absurd aD h))
      refine aa (ah rfl (rgn rfl (pu (iv j) rfl (pu (.pointer (some ⟨p,0,none⟩)) rfl (ac (aq hI 5 1 [iv j] sizeOf3 rfl rfl rfl rfl rfl (kh rfl) fun w hI=>aa ?_))))))
      exact .inl ⟨rfl,⟨j,⟨rfl,rfl,rfl,rfl,rfl,rfl,trivial⟩,hI.pk [1,2,3,4,5,0] rfl rfl,hF⟩⟩
     refine ac (di rfl rfl (fun h=>absurd h aD) (fun _=>?_))
     refine aa (ai rfl (ak ?_))
     exact .inl ⟨rfl,⟨q,⟨rfl,rfl,rfl,rfl,rfl,rfl,trivial⟩,hI.pk [1,2,3,4,5,0] rfl rfl,hF⟩⟩
    intro ρ w hJ
    obtain ⟨W,hag,hI,hF⟩:=hJ
    obtain ⟨ρ,rfl⟩:=hag.form; clear hag
    unfold F48j4 at hF
    refine ab (rgn rfl (pu (.pointer (some ⟨a6,1,none⟩)) rfl (ac (ag hI 5 (iv k.hi) isAgg3 rfl rfl rfl ?_))))
    refine ifE hF (fun aE hF=>?_) (fun aE hF=>?_)
    ·
     refine ac (di rfl rfl (fun _=>?_) (fun h=>absurd aE h))
     refine aa (ah rfl (rgn rfl (pu (iv j) rfl (pu (.pointer (some ⟨p,1,none⟩)) rfl (ac (aq hI 4 1 [iv j] sizeOf3 rfl rfl rfl rfl rfl (kh rfl) fun w hI=>aa ?_))))))
     exact .inl ⟨rfl,⟨e,o,A,some f,g,t,W,j,⟨rfl,rfl,rfl,rfl,trivial⟩,hI.pk [0,1,2,3,4] rfl rfl,(V.to rfl rfl),(O.to rfl rfl),hF⟩⟩
    refine ac (di rfl rfl (fun h=>absurd h aE) (fun _=>?_))
    refine aa (ai rfl (ak ?_))
    exact .inl ⟨rfl,⟨e,o,A,some f,g,t,W,l,⟨rfl,rfl,rfl,rfl,trivial⟩,hI.pk [0,1,2,3,4] rfl rfl,(V.to rfl rfl),(O.to rfl rfl),hF⟩⟩
   intro ρ w hJ
   obtain ⟨T,a0,a1,U,a2,a3,a4,a5,hag,hI,b2,b3,hF⟩:=hJ
   obtain ⟨ρ,rfl⟩:=hag.form; clear hag
   unfold F48j2 at hF
   refine rgn rfl (pu (iv d) rfl (ckE hF (fun b4 hF=>?_)))
   refine ac (dm rfl rfl b4 ?_)
   refine pu (iv (d - 1)) rfl (aa ?_)
   exact ⟨rfl,m1,Nat.lt_succ_self _,⟨T,a0,a1,U,a2,a3,a4,a5,d - 1,m1,⟨rfl,rfl,rfl,rfl,trivial⟩,hI.pk [0,1,2,3,4] rfl rfl,(b2.to rfl rfl),(b3.to rfl rfl),hF,rfl⟩⟩
  refine ac (iq rfl rfl (fun h=>absurd h a9) (fun _=>?_))
  refine aa (ai rfl (bw ?_))
  refine ab (rgn rfl (ac (ar hI 4 2 [iv q,iv l] isAgg23 sizeOf23 rfl rfl rfl rfl ?_)))
  refine ac (aq hI 0 2 [iv q,iv l] sizeOf23 rfl rfl rfl rfl rfl (kh rfl) fun w hI=>pu (iv 0) rfl (aa (aj ?_)))
  replace hF:=Option.some.inj hF; subst hF
  exact ⟨.tuple #[.agg #[iv q,iv l],iv 0],Ret.ct rfl rfl (ce hI 0 2 [iv q,iv l] isAgg23 sizeOf23 rfl rfl rfl) rfl,⟨rfl,hI.below⟩⟩
 refine ac (de rfl rfl (fun _=>?_) (fun h=>absurd h a7))
 refine aa (ah rfl (ab (rgn rfl (pu (.agg #[iv 0,iv 0]) (by kernel_rfl) (pu (iv a.2.2) rfl (ac (aq hI 3 2 [iv 0,iv 0] sizeOf23 rfl rfl rfl rfl rfl (kh rfl) fun w hI=>pu (iv a.2.2) rfl (aa (aj ?_)))))))))
 replace hF:=Option.some.inj hF; subst hF
 exact ⟨.tuple #[.agg #[iv 0,iv 0],iv a.2.2],Ret.ct rfl rfl (ce hI 3 2 [iv 0,iv 0] isAgg23 sizeOf23 rfl rfl rfl) rfl,⟨rfl,hI.below⟩⟩


theorem L117 (w0:World) (o:Int) (p:Int) (q:Option Addr) (s:Nat) (g:List Ld) (t:Option Addr) (u:Nat) (i:List Ld) (j:Option Addr) (k:Nat) (d:List Sp) (x:Int) (b:Int) (e:Int) (O:bi w0 q (al eLd g)) (P:g.length≤9223372036854775807) (Q:g.length≤s) (R:bi w0 t (al eLd i)) (S:i.length≤9223372036854775807) (T:i.length≤u) (H:bi w0 j (al eSp d)) (U:d.length≤9223372036854775807) (V:d.length≤k) (N:Nat) (r:Bool) (hF:F117 N o p g i d x b e=some r):bn Tryz.prog 117 [.agg (ql6 o p q g s t i u j d k x).toArray,.int .i64 b,.int .i64 e] w0 fun v w=>v=.bool r∧Below w0.heap.size w0 w:=by
 refine az (n:=39) func117 rfl ntmps117 rfl ?_
 have hI:=Inv.start w0
 unfold F117 at hF
 refine ab (rgn rfl (ac (ca hI (ql6 o p q g s t i u j d k x) rfl fun l w hI=>pu kf rfl (aa (ab (ab (rgn rfl (pu (iv b) rfl (ac (s_rem rfl rfl (by decide) ?_))))))))))
 refine bt hF (fun W D hF=>?_)
 refine ifE hF (fun z hF=>?_) (fun z hF=>?_)
 ·
  refine ac (bg hI 80 [iv (b.tmod 24),iv 8,iv 18] kg (by kernel_rfl) (bn.mono (L80 _ (b.tmod 24) 8 18 _ D) (fun v' w' h=>⟨h.1.trans (congrArg Value.bool z),h.2⟩)) fun w hI=>pu kf rfl (aa (ai rfl (ak (ab (ab (rgn rfl (pu (iv 0) rfl (aa (au ?_))))))))))
  refine cb (fun m ρ w=>∃ (f:Int) (mm:Nat),cd ρ [(1,iv b),(2,iv e),(3,.pointer (some ⟨l,0,none⟩)),(7,iv f)]∧Inv [] w0 w [(some l,blk (ql6 o p q g s t i u j d k x) 28)]∧F117l1 d b e mm f=some r∧mm=m) (m:=N) ⟨0,N,⟨rfl,rfl,rfl,rfl,trivial⟩,hI.pk [0] rfl rfl,hF,rfl⟩ ?_
  rintro m ρ w ⟨f,mm,hag,hI,hF,hm⟩
  subst hm; obtain ⟨ρ,rfl⟩:=hag.form; clear hag
  obtain _ | m1:=mm
  ·cases (show (none:Option Bool)=some r from hF)
  replace hF:F117b1 d b e (F117l1 d b e m1) f=some r:=hF; unfold F117b1 at hF
  refine ab (ab (rgn rfl (pu (iv f) rfl (pu (.pointer (some ⟨l,4,none⟩)) rfl (ac (ag hI 0 (.slice j d.length k) isAgg26 rfl rfl rfl ?_))))))
  refine pu (iv ((d.length:Nat):Int)) (by kernel_rfl) (ifE hF (fun A hF=>?_) (fun A hF=>?_))
  ·
   refine ac (cm rfl rfl (fun _=>?_) (fun h=>absurd A h))
   refine aa (ah rfl (ak (ab (au ?_))))
   refine ab (rgn rfl (pu (.pointer (some ⟨l,4,none⟩)) rfl (ac (ag hI 0 (.slice j d.length k) isAgg26 rfl rfl rfl ?_))))
   refine pu (iv f) rfl (gdE hF (fun I hF=>?_))
   refine bt hF (fun a E hF=>?_)
   obtain ⟨X,Y,J,K,L⟩:=H.at_ gb (by decide) E
   refine ac (cn (f).toNat underlying26 sizeOf33 rfl J rfl (Int.toNat_of_nonneg I).symm (fa E rfl) ?_)
   refine ac (ef hI (eSp a) isAgg33 sizeOf33 rfl rfl K (by simp) L ?_)
   refine ac (bh hI [iv 0,iv 0,iv 0,iv 0,iv 0,iv 0] zeroValue33 rfl fun y w hI=>ac (aq hI 0 6 (eSp a) sizeOf33 rfl rfl rfl rfl rfl (kh rfl) fun w hI=>aa (dn (fun ρ w=>cd ρ [(1,iv b),(2,iv e),(3,.pointer (some ⟨l,0,none⟩)),(7,iv f),(38,.bool false)]∧Inv [] w0 w [(some l,blk (ql6 o p q g s t i u j d k x) 28)]∧F117j2 (F117l1 d b e m1) f=some r) ?_ ?_)))
   ·
    refine rgn rfl (pu (.pointer (some ⟨y,4,none⟩)) rfl (ac (ag hI 0 (iv a.kn) isAgg3 rfl rfl rfl ?_)))
    refine pu (.pointer (some ⟨y,5,none⟩)) rfl (ac (ag hI 0 (iv a.un) isAgg3 rfl rfl rfl ?_))
    refine pu (iv e) rfl (bt hF (fun Z F hF=>?_))
    refine ifE hF (fun B hF=>?_) (fun B hF=>?_)
    ·
     refine ac (bg hI 147 [iv a.kn,iv a.un,iv e] kg (by kernel_rfl) (bn.mono (L147 _ a.kn a.un e _ F) (fun v' w' h=>⟨h.1.trans (congrArg Value.bool B),h.2⟩)) fun w hI=>pu kg rfl (puo (iv b) ⟨rfl,rfl⟩ (puo (.pointer (some ⟨y,2,none⟩)) ⟨rfl,rfl⟩ (aw rfl (ag hI 0 (iv a.fr) isAgg3 rfl rfl rfl ?_)))))
     refine puo (.pointer (some ⟨y,3,none⟩)) ⟨rfl,rfl⟩ (aw rfl (ag hI 0 (iv a.to) isAgg3 rfl rfl rfl ?_))
     refine bt hF (fun a0 G hF=>?_)
     refine ifE hF (fun C hF=>?_) (fun C hF=>?_)
     ·
      refine aw rfl (bg hI 80 [iv b,iv a.fr,iv a.to] kg (by kernel_rfl) (bn.mono (L80 _ b a.fr a.to _ G) (fun v' w' h=>⟨h.1.trans (congrArg Value.bool C),h.2⟩)) fun w hI=>pu kg rfl (aa (.inr ?_)))
      refine ah rfl (ab (rgn rfl (pu kg rfl (aa (aj ?_)))))
      replace hF:=Option.some.inj hF; subst hF
      exact ⟨.bool true,Ret.r1 rfl rfl,⟨rfl,hI.below⟩⟩
     refine aw rfl (bg hI 80 [iv b,iv a.fr,iv a.to] kf (by kernel_rfl) (bn.mono (L80 _ b a.fr a.to _ G) (fun v' w' h=>⟨h.1.trans (congrArg Value.bool (Bool.eq_false_iff.2 C)),h.2⟩)) fun w hI=>pu kf rfl (aa ?_))
     exact .inl ⟨rfl,⟨⟨rfl,rfl,rfl,rfl,rfl,trivial⟩,hI.pk [1] rfl rfl,hF⟩⟩
    refine ac (bg hI 147 [iv a.kn,iv a.un,iv e] kf (by kernel_rfl) (bn.mono (L147 _ a.kn a.un e _ F) (fun v' w' h=>⟨h.1.trans (congrArg Value.bool (Bool.eq_false_iff.2 B)),h.2⟩)) fun w hI=>pu kf rfl (sf 6 rfl (pu kf rfl (aa ?_))))
    exact .inl ⟨rfl,⟨⟨rfl,rfl,rfl,rfl,rfl,trivial⟩,hI.pk [1] rfl rfl,hF⟩⟩
   intro ρ w hJ
   obtain ⟨hag,hI,hF⟩:=hJ
   obtain ⟨ρ,rfl⟩:=hag.form; clear hag
   unfold F117j2 at hF
   refine ai rfl (ak (rgn rfl (pu (iv f) rfl (ckE hF (fun M hF=>?_)))))
   refine ac (cj rfl rfl M ?_)
   refine pu (iv (f+1)) rfl (aa ?_)
   exact ⟨rfl,m1,Nat.lt_succ_self _,⟨f+1,m1,⟨rfl,rfl,rfl,rfl,trivial⟩,hI.pk [0] rfl rfl,hF,rfl⟩⟩
  refine ac (cm rfl rfl (fun h=>absurd h A) (fun _=>?_))
  refine aa (ai rfl (bw ?_))
  refine ab (rgn rfl (pu kf rfl (aa (aj ?_))))
  replace hF:=Option.some.inj hF; subst hF
  exact ⟨.bool false,Ret.r1 rfl rfl,⟨rfl,hI.below⟩⟩
 refine ac (bg hI 80 [iv (b.tmod 24),iv 8,iv 18] kf (by kernel_rfl) (bn.mono (L80 _ (b.tmod 24) 8 18 _ D) (fun v' w' h=>⟨h.1.trans (congrArg Value.bool (Bool.eq_false_iff.2 z)),h.2⟩)) fun w hI=>pu kg rfl (aa (ah rfl (ab (rgn rfl (pu kg rfl (aa (aj ?_))))))))
 replace hF:=Option.some.inj hF; subst hF
 exact ⟨.bool true,Ret.r1 rfl rfl,⟨rfl,hI.below⟩⟩


theorem L50 (w0:World) (e:Int) (f:Int) (g:Option Addr) (i:Nat) (a:List Ld) (j:Option Addr) (k:Nat) (b:List Ld) (l:Option Addr) (m:Nat) (d:List Sp) (o:Int) (p:Int) (q:Int) (u:bi w0 g (al eLd a)) (x:a.length≤9223372036854775807) (y:a.length≤i) (z:bi w0 j (al eLd b)) (A:b.length≤9223372036854775807) (B:b.length≤k) (C:bi w0 l (al eSp d)) (D:d.length≤9223372036854775807) (E:d.length≤m) (N:Nat) (r:(Bool × Int)) (hF:F50 N e f a b d o p q=some r):bn Tryz.prog 50 [.agg (ql6 e f g a i j b k l d m o).toArray,.int .i64 p,.int .i64 q] w0 fun v w=>v=.tuple #[.bool r.1,.int .i64 r.2]∧Below w0.heap.size w0 w:=by
 refine az (n:=20) func50 rfl ntmps50 rfl ?_
 have hI:=Inv.start w0
 unfold F50 at hF
 refine ab (rgn rfl (ac (ca hI (ql6 e f g a i j b k l d m o) rfl fun H w hI=>pu kf rfl (pu (iv 0) rfl (aa (ab (rgn rfl (ac (ar hI 0 6 (ql6 e f g a i j b k l d m o) isAgg28 sizeOf28 rfl rfl rfl rfl ?_)))))))))
 refine pu (iv p) rfl (pu (iv q) rfl (bt hF (fun s F hF=>?_)))
 refine ac (bg hI 88 [.agg (ql6 e f g a i j b k l d m o).toArray,iv p,iv q] (iv s) (by kernel_rfl) (L88 _ e f g i a j k b l m d o p q (u.inv0 hI) x y (z.inv0 hI) A B (C.inv0 hI) D E N _ F) fun w hI=>pu (iv s) rfl (aa (ab (ab (rgn rfl (pu (iv s) rfl (ifE hF (fun h8 hF=>?_) (fun h8 hF=>?_))))))))
 ·
  refine ac (de rfl rfl (fun h=>absurd h8 h) (fun _=>?_))
  refine aa (ai rfl (ak (ab (rgn rfl (ac (ar hI 0 6 (ql6 e f g a i j b k l d m o) isAgg28 sizeOf28 rfl rfl rfl rfl ?_))))))
  refine pu (iv p) rfl (pu (iv q) rfl (bt hF (fun t G hF=>?_)))
  refine ac (bg hI 117 [.agg (ql6 e f g a i j b k l d m o).toArray,iv p,iv q] (.bool t) (by kernel_rfl) (L117 _ e f g i a j k b l m d o p q (u.inv0 hI) x y (z.inv0 hI) A B (C.inv0 hI) D E N _ G) fun w hI=>pu (.bool t) rfl (pu (iv 0) rfl (aa (aj ?_))))
  replace hF:=Option.some.inj hF; subst hF
  exact ⟨.tuple #[.bool t,iv 0],Ret.r2 rfl rfl rfl,⟨rfl,hI.below⟩⟩
 refine ac (de rfl rfl (fun _=>?_) (fun h=>absurd h h8))
 refine aa (ah rfl (ab (rgn rfl (pu (iv s) rfl (pu kf rfl (pu (iv s) rfl (aa (aj ?_))))))))
 replace hF:=Option.some.inj hF; subst hF
 exact ⟨.tuple #[.bool false,iv s],Ret.r2 rfl rfl rfl,⟨rfl,hI.below⟩⟩


theorem L52 (w0:World) (o:Int) (p:Int) (s:Option Addr) (t:Nat) (i:List Ld) (u:Option Addr) (x:Nat) (j:List Ld) (y:Option Addr) (A:Nat) (k:List Sp) (e:Int) (m:Int) (I:Int) (a5:bi w0 s (al eLd i)) (a6:i.length≤9223372036854775807) (a7:i.length≤t) (a8:bi w0 u (al eLd j)) (a9:j.length≤9223372036854775807) (aA:j.length≤x) (aB:bi w0 y (al eSp k)) (aC:k.length≤9223372036854775807) (aD:k.length≤A) (N:Nat) (r:(Int × Int)) (hF:F52 N o p i j k e m I=some r):bn Tryz.prog 52 [.agg (ql6 o p s i t u j x y k A e).toArray,.int .i64 m,.int .i64 I] w0 fun v w=>v=.tuple #[.int .i64 r.1,.int .i64 r.2]∧Below w0.heap.size w0 w:=by
 refine az (n:=101) func52 rfl ntmps52 rfl ?_
 have hI:=Inv.start w0
 unfold F52 at hF
 refine ab (rgn rfl (ac (ca hI (ql6 o p s i t u j x y k A e) rfl fun O w hI=>pu (iv 0) rfl (pu (iv 0) rfl (aa (ab (rgn rfl (ac (ar hI 0 6 (ql6 o p s i t u j x y k A e) isAgg28 sizeOf28 rfl rfl rfl rfl ?_)))))))))
 refine pu (iv m) rfl (pu (iv I) rfl (bt hF (fun a b6 hF=>?_)))
 refine ac (co 99 [.agg (ql6 o p s i t u j x y k A e).toArray,iv m,iv I] (by kernel_rfl) (L99 _ o p s t i u x j y A k e m I (a5.inv0 hI) a6 a7 (a8.inv0 hI) a9 aA (aB.inv0 hI) aC aD N _ b6) ?_)
 rintro v w ⟨l,H,R,C,D,P,rfl,hN,W,M⟩
 have hI:=hI.join hN; clear hN
 refine pu (.tuple #[.agg #[slv l a.1.length H,slv C a.2.1.length D],iv a.2.2]) rfl (pu (.agg #[slv l a.1.length H,slv C a.2.1.length D]) rfl (pu (iv a.2.2) rfl (ac (bh hI [.slice none 0 0,.slice none 0 0] zeroValue132 rfl fun K w hI=>ac (aq hI 0 2 [slv l a.1.length H,slv C a.2.1.length D] sizeOf132 rfl rfl rfl rfl rfl (kh rfl) fun w hI=>pu (iv a.2.2) rfl (aa (ab (ab (rgn rfl (pu (iv a.2.2) rfl (ifE hF (fun aK hF=>?_) (fun aK hF=>?_))))))))))))
 ·
  refine ac (de rfl rfl (fun h=>absurd aK h) (fun _=>?_))
  refine aa (ai rfl (ak (ab (ab (rgn rfl (ac (ar hI 3 6 (ql6 o p s i t u j x y k A e) isAgg28 sizeOf28 rfl rfl rfl rfl ?_)))))))
  refine pu (iv m) rfl (pu (iv I) rfl (bt hF (fun bQ b1 hF=>?_)))
  refine ifE hF (fun aL hF=>?_) (fun aL hF=>?_)
  ·
   refine ac (bg hI 117 [.agg (ql6 o p s i t u j x y k A e).toArray,iv m,iv I] kg (by kernel_rfl) (bn.mono (L117 _ o p s t i u x j y A k e m I (a5.inv0 hI) a6 a7 (a8.inv0 hI) a9 aA (aB.inv0 hI) aC aD N _ b1) (fun v' w' h=>⟨h.1.trans (congrArg Value.bool aL),h.2⟩)) fun w hI=>aa (ah rfl (ab (rgn rfl (pu (iv 0) rfl (pu (iv 0) rfl (aa (aj ?_))))))))
   replace hF:=Option.some.inj hF; subst hF
   exact ⟨.tuple #[iv 0,iv 0],Ret.r2 rfl rfl rfl,⟨rfl,hI.below⟩⟩
  refine ac (bg hI 117 [.agg (ql6 o p s i t u j x y k A e).toArray,iv m,iv I] kf (by kernel_rfl) (bn.mono (L117 _ o p s t i u x j y A k e m I (a5.inv0 hI) a6 a7 (a8.inv0 hI) a9 aA (aB.inv0 hI) aC aD N _ b1) (fun v' w' h=>⟨h.1.trans (congrArg Value.bool (Bool.eq_false_iff.2 aL)),h.2⟩)) fun w hI=>aa (ai rfl (ak (ab (rgn rfl (pu (iv m) rfl (pu (.pointer (some ⟨O,5,none⟩)) rfl (ac (ag hI 3 (iv e) isAgg3 rfl rfl rfl ?_)))))))))
  refine ckE hF (fun b7 hF=>?_)
  refine ac (s_mul rfl rfl b7 ?_)
  refine ckE hF (fun b8 hF=>?_)
  refine ac (dm rfl rfl b8 ?_)
  refine pu (iv (m - (24 * e))) rfl (aa (dn (fun ρ w=>∃ (aE:Bool),cd ρ [(1,iv m),(2,iv I),(3,.pointer (some ⟨O,0,none⟩)),(8,.pointer (some ⟨K,0,none⟩)),(10,iv (m - (24 * e))),(11,.bool aE)]∧Inv [] w0 w [(some O,blk (ql6 o p s i t u j x y k A e) 28),(some K,blk [slv l a.1.length H,slv C a.2.1.length D] 132),(l,blk R 30),(C,blk P 23)]∧F52j1 o p i j k e m I N a aE=some r) ?_ ?_))
  ·
   refine rgn rfl (pu (.pointer (some ⟨O,5,none⟩)) rfl (ac (ag hI 3 (iv e) isAgg3 rfl rfl rfl ?_)))
   refine ifE hF (fun aM hF=>?_) (fun aM hF=>?_)
   ·
    refine ac (di rfl rfl (fun _=>?_) (fun h=>absurd aM h))
    refine pu kg rfl (sf 2 rfl (pu kg rfl (pu kg rfl (aa ?_))))
    exact .inl ⟨rfl,⟨true,⟨rfl,rfl,rfl,rfl,rfl,rfl,trivial⟩,hI.pk [3,0,1,2] rfl rfl,hF⟩⟩
   refine ac (di rfl rfl (fun h=>absurd h aM) (fun _=>?_))
   refine pu kf rfl (puo (iv (m - (24 * e))) ⟨rfl,rfl⟩ (ifE hF (fun aN hF=>?_) (fun aN hF=>?_)))
   ·
    refine aw rfl (cm rfl rfl (fun _=>?_) (fun h=>absurd aN h))
    refine pu kg rfl (pu kg rfl (aa ?_))
    exact .inl ⟨rfl,⟨true,⟨rfl,rfl,rfl,rfl,rfl,rfl,trivial⟩,hI.pk [3,0,1,2] rfl rfl,hF⟩⟩
   refine aw rfl (cm rfl rfl (fun h=>absurd h aN) (fun _=>?_))
   refine pu kf rfl (pu kf rfl (aa ?_))
   exact .inl ⟨rfl,⟨false,⟨rfl,rfl,rfl,rfl,rfl,rfl,trivial⟩,hI.pk [3,0,1,2] rfl rfl,hF⟩⟩
  intro ρ w hJ
  obtain ⟨aE,hag,hI,hF⟩:=hJ
  obtain ⟨ρ,rfl⟩:=hag.form; clear hag
  unfold F52j1 at hF
  refine ab (rgn rfl (ac (ar hI 0 6 (ql6 o p s i t u j x y k A e) isAgg28 sizeOf28 rfl rfl rfl rfl ?_)))
  refine pu (iv I) rfl (pu (.agg #[.bool true,.slice none 0 0]) (by kernel_rfl) (bt hF (fun d b9 hF=>?_)))
  refine ac (co 109 [.agg (ql6 o p s i t u j x y k A e).toArray,iv I,.agg #[.bool true,.slice none 0 0]] (by kernel_rfl) (L109 _ o p s t i u x j y A k e I true none 0 [] (a5.inv0 hI) a6 a7 (a8.inv0 hI) a9 aA (aB.inv0 hI) aC aD bi.nil0 (by decide) (Nat.le_refl _) N _ b9) ?_)
  rintro v w ⟨E,J,X,a1,G,bA,rfl,hN,aO,aP⟩
  have hI:=hI.join hN; clear hN
  refine ac (bh hI [.slice none 0 0,.slice none 0 0] zeroValue132 rfl fun L w hI=>ac (aq hI 0 2 [slv E d.1.length J,slv a1 d.2.length G] sizeOf132 rfl rfl rfl rfl rfl (kh rfl) fun w hI=>aa (ab (rgn rfl (ac (ar hI 4 2 [slv l a.1.length H,slv C a.2.1.length D] isAgg132 sizeOf132 rfl rfl rfl rfl ?_))))))
  refine pu (iv m) rfl (bt hF (fun f bB hF=>?_))
  refine ac (bg hI 100 [.agg #[slv l a.1.length H,slv C a.2.1.length D],iv m] (iv f) (by kernel_rfl) (L100 _ (l.map fun b=>⟨b,0,none⟩) H a.1 (C.map fun b=>⟨b,0,none⟩) D a.2.1 m (hI.rowCells 5 rfl W) (am rfl W.big) (am rfl W.cap) (hI.rowCells 6 rfl M) (am rfl M.big) (am rfl M.cap) N _ bB) fun w hI=>pu (iv f) rfl (aa (ab (gm 11 hI (by kernel_rfl) ?_))))
  refine zp (.pointer (some ⟨L,1,none⟩)) (fun _=>rfl) (zc (slv a1 d.2.length G) (fun w hI=>ag hI 0 (slv a1 d.2.length G) isAgg130 rfl rfl rfl br) (zp (iv f) (fun _=>rfl) (zp (.pointer (some ⟨L,1,none⟩)) (fun _=>rfl) (zc (slv a1 d.2.length G) (fun w hI=>ag hI 0 (slv a1 d.2.length G) isAgg130 rfl rfl rfl br) (zp (iv f) (fun _=>rfl) (gdE hF (fun aF hF=>?_)))))))
  refine bt hF (fun S aG hF=>?_)
  obtain ⟨q,rfl,bC⟩:=aP.at_ da (by decide) aG
  refine zc (.pointer (some ⟨q,(f).toNat * 2,none⟩)) (fun w hI=>be (f).toNat underlying130 sizeOf23 rfl rfl (Int.toNat_of_nonneg aF).symm (fa aG rfl) br) (zc (.agg #[iv S.lo,iv S.hi]) (fun w hI=>cq hI 2 [iv S.lo,iv S.hi] isAgg23 sizeOf23 rfl rfl rfl bC br) (zp (.agg #[iv 0,iv 0]) (fun _=>(by kernel_rfl)) (bt hF (fun g bD hF=>?_))))
  refine zc (.agg #[iv g.1,iv g.2]) (fun w hI=>co 105 [.agg #[iv S.lo,iv S.hi],.agg #[iv 0,iv 0]] (by kernel_rfl) (L105 _ S (⟨0,0⟩:Rg) _ bD) (fun v' w' h=>h)) (zc (.pointer (some ⟨q,(f).toNat * 2,none⟩)) (fun w hI=>be (f).toNat underlying130 sizeOf23 rfl rfl (Int.toNat_of_nonneg aF).symm (fa aG rfl) br) (zh (fun w hI=>?_)))
  have:=fa aG rfl
  refine ac (aq hI 2 2 [iv g.1,iv g.2] sizeOf23 rfl rfl rfl rfl rfl (aP.room (by omega)) ?_)
  intro w hI
  have a2:=aP.put da (by decide) (f).toNat (⟨g.1,g.2⟩:Rg) (by omega)
  obtain ⟨aH,hcl⟩:∃ z,z=putCells bA ((f).toNat * 2) (eRg (⟨g.1,g.2⟩:Rg)):=⟨_,rfl⟩
  rw [← hcl] at a2
  have hI:Inv [] w0 w [(some L,blk [slv E d.1.length J,slv (some q) d.2.length G] 132),(E,blk X 30),(some q,blk aH 23),(some O,blk (ql6 o p s i t u j x y k A e) 28),(some K,blk [slv l a.1.length H,slv C a.2.1.length D] 132),(l,blk R 30),(C,blk P 23)]:=by rw [hcl]; exact hI
  clear hcl
  refine aa (dn (fun ρ w=>∃ (Y:Option Nat) (a3:Nat) (aQ:List Value) (T:Option Nat) (Z:Nat) (aR:List Value) (aI:Bool) (Q:List Rg),cd ρ [(8,.pointer (some ⟨K,0,none⟩)),(11,.bool aI),(12,.pointer (some ⟨L,0,none⟩)),(13,iv f)]∧Inv [] w0 w [(some K,blk [slv l a.1.length H,slv Y a.2.1.length a3] 132),(l,blk R 30),(Y,blk aQ 23),(some L,blk [slv E d.1.length J,slv T Q.length Z] 132),(E,blk X 30),(T,blk aR 23)]∧(Row 2 Y (a.2.1.length) a3 aQ (al eRg a.2.1))∧(Row 2 T (Q.length) Z aR (al eRg Q))∧F52j2 N a d f aI Q=some r) ?_ ?_)
  ·
   refine ab ?_
   have hG:=hF; rcases Bool.eq_false_or_eq_true aE with rfl | rfl
   ·
    have hF:=hG; clear hG
    refine ifE hF (fun _ hF=>?_) (fun h=>absurd rfl h)
    refine rgn rfl (pu kg rfl (pu kf rfl (aa (ai rfl (ak ?_)))))
    have hI:Inv [] w0 w [(some L,blk [slv E d.1.length J,slv (some q) (((d.2).set (f).toNat (⟨g.1,g.2⟩:Rg)).length) G] 132),(E,blk X 30),(some q,blk aH 23),(some O,blk (ql6 o p s i t u j x y k A e) 28),(some K,blk [slv l a.1.length H,slv C a.2.1.length D] 132),(l,blk R 30),(C,blk P 23)]:=by first | (have h:=hI; (try simp only [List.length_set,ib] at h); simp only [List.length_set,ib]; exact h) | (have h:=hI; rw [show d.2.length=((d.2).set (f).toNat (⟨g.1,g.2⟩:Rg)).length from (km rfl)] at h; exact h)
    exact .inl ⟨rfl,⟨C,D,P,some q,G,aH,true,(d.2).set (f).toNat (⟨g.1,g.2⟩:Rg),⟨rfl,rfl,rfl,rfl,trivial⟩,hI.pk [4,5,6,0,1,2] rfl rfl,(M.to rfl rfl),(a2.to rfl (km rfl)),hF⟩⟩
   have hF:=hG; clear hG
   refine ifE hF (fun h=>absurd h (by decide)) (fun _ hF=>?_)
   refine rgn rfl (pu kf rfl (pu kg rfl (aa (ah rfl (ab (rgn rfl (ac (ar hI 4 2 [slv l a.1.length H,slv C a.2.1.length D] isAgg132 sizeOf132 rfl rfl rfl rfl ?_))))))))
   refine pu (iv (m - (24 * e))) rfl (bt hF (fun F bE hF=>?_))
   refine ac (bg hI 100 [.agg #[slv l a.1.length H,slv C a.2.1.length D],iv (m - (24 * e))] (iv F) (by kernel_rfl) (L100 _ (l.map fun b=>⟨b,0,none⟩) H a.1 (C.map fun b=>⟨b,0,none⟩) D a.2.1 (m - (24 * e)) (hI.rowCells 5 rfl W) (am rfl W.big) (am rfl W.cap) (hI.rowCells 6 rfl M) (am rfl M.big) (am rfl M.cap) N _ bE) fun w hI=>pu (iv F) rfl (aa (ab (gm 11 hI (by kernel_rfl) ?_))))
   refine zp (.pointer (some ⟨L,1,none⟩)) (fun _=>rfl) (zc (slv (some q) d.2.length G) (fun w hI=>ag hI 0 (slv (some q) d.2.length G) isAgg130 rfl rfl rfl br) (zp (iv F) (fun _=>rfl) (zp (.pointer (some ⟨L,1,none⟩)) (fun _=>rfl) (zc (slv (some q) d.2.length G) (fun w hI=>ag hI 0 (slv (some q) d.2.length G) isAgg130 rfl rfl rfl br) (zp (iv F) (fun _=>rfl) (gdE hF (fun aS hF=>?_)))))))
   refine bt hF (fun U aJ hF=>?_)
   have bF:=a2.atS da (by decide) aJ
   refine zc (.pointer (some ⟨q,(F).toNat * 2,none⟩)) (fun w hI=>be (F).toNat underlying130 sizeOf23 rfl rfl (Int.toNat_of_nonneg aS).symm (fa aJ (km rfl)) br) (zc (.agg #[iv U.lo,iv U.hi]) (fun w hI=>cq hI 2 [iv U.lo,iv U.hi] isAgg23 sizeOf23 rfl rfl rfl bF br) (zp (.agg #[iv 1,iv 10000]) (fun _=>(by kernel_rfl)) (bt hF (fun B bG hF=>?_))))
   refine zc (.agg #[iv B.1,iv B.2]) (fun w hI=>co 105 [.agg #[iv U.lo,iv U.hi],.agg #[iv 1,iv 10000]] (by kernel_rfl) (L105 _ U (⟨1,10000⟩:Rg) _ bG) (fun v' w' h=>h)) (zc (.pointer (some ⟨q,(F).toNat * 2,none⟩)) (fun w hI=>be (F).toNat underlying130 sizeOf23 rfl rfl (Int.toNat_of_nonneg aS).symm (fa aJ (km rfl)) br) (zh (fun w hI=>?_)))
   have:=fa aJ (km rfl)
   refine ac (aq hI 2 2 [iv B.1,iv B.2] sizeOf23 rfl rfl rfl rfl rfl (a2.room (by omega)) ?_)
   intro w hI
   have aT:=a2.put da (by decide) (F).toNat (⟨B.1,B.2⟩:Rg) (by omega)
   obtain ⟨a4,hcl⟩:∃ z,z=putCells aH ((F).toNat * 2) (eRg (⟨B.1,B.2⟩:Rg)):=⟨_,rfl⟩
   rw [← hcl] at aT
   have hI:Inv [] w0 w [(some L,blk [slv E d.1.length J,slv (some q) d.2.length G] 132),(E,blk X 30),(some q,blk a4 23),(some O,blk (ql6 o p s i t u j x y k A e) 28),(some K,blk [slv l a.1.length H,slv C a.2.1.length D] 132),(l,blk R 30),(C,blk P 23)]:=by rw [hcl]; exact hI
   clear hcl
   refine aa (rgn rfl (pu (.pointer (some ⟨K,1,none⟩)) rfl (ac (ag hI 4 (slv C a.2.1.length D) isAgg130 rfl rfl rfl ?_))))
   refine pu (iv F) rfl (bt hF (fun bH b2 hF=>?_))
   obtain ⟨V,rfl,bI⟩:=M.at_ da (by decide) b2
   refine ac (be (F).toNat underlying130 sizeOf23 rfl rfl (Int.toNat_of_nonneg aS).symm (fa b2 rfl) ?_)
   refine pu (.pointer (some ⟨V,(F).toNat * 2,none⟩)) rfl (ac (db hI 6 (iv bH.lo) isAgg3 rfl rfl (bI 0 _ rfl) ?_))
   refine ifE hF (fun aU hF=>?_) (fun aU hF=>?_)
   ·
    refine ac (fh rfl rfl (fun _=>?_) (fun h=>absurd aU h))
    refine pu kg rfl (aa ?_)
    have hI:Inv [] w0 w [(some L,blk [slv E d.1.length J,slv (some q) ((((d.2).set (f).toNat (⟨g.1,g.2⟩:Rg)).set (F).toNat (⟨B.1,B.2⟩:Rg)).length) G] 132),(E,blk X 30),(some q,blk a4 23),(some O,blk (ql6 o p s i t u j x y k A e) 28),(some K,blk [slv l a.1.length H,slv (some V) a.2.1.length D] 132),(l,blk R 30),(some V,blk P 23)]:=by first | (have h:=hI; (try simp only [List.length_set,ib] at h); simp only [List.length_set,ib]; exact h) | (have h:=hI; rw [show d.2.length=(((d.2).set (f).toNat (⟨g.1,g.2⟩:Rg)).set (F).toNat (⟨B.1,B.2⟩:Rg)).length from (km (km rfl))] at h; exact h)
    exact .inl ⟨rfl,⟨some V,D,P,some q,G,a4,true,((d.2).set (f).toNat (⟨g.1,g.2⟩:Rg)).set (F).toNat (⟨B.1,B.2⟩:Rg),⟨rfl,rfl,rfl,rfl,trivial⟩,hI.pk [4,5,6,0,1,2] rfl rfl,(M.to rfl rfl),(aT.to rfl (km (km rfl))),hF⟩⟩
   refine ac (fh rfl rfl (fun h=>absurd h aU) (fun _=>?_))
   refine pu kf rfl (aa ?_)
   have hI:Inv [] w0 w [(some L,blk [slv E d.1.length J,slv (some q) ((((d.2).set (f).toNat (⟨g.1,g.2⟩:Rg)).set (F).toNat (⟨B.1,B.2⟩:Rg)).length) G] 132),(E,blk X 30),(some q,blk a4 23),(some O,blk (ql6 o p s i t u j x y k A e) 28),(some K,blk [slv l a.1.length H,slv (some V) a.2.1.length D] 132),(l,blk R 30),(some V,blk P 23)]:=by first | (have h:=hI; (try simp only [List.length_set,ib] at h); simp only [List.length_set,ib]; exact h) | (have h:=hI; rw [show d.2.length=(((d.2).set (f).toNat (⟨g.1,g.2⟩:Rg)).set (F).toNat (⟨B.1,B.2⟩:Rg)).length from (km (km rfl))] at h; exact h)
   exact .inl ⟨rfl,⟨some V,D,P,some q,G,a4,false,((d.2).set (f).toNat (⟨g.1,g.2⟩:Rg)).set (F).toNat (⟨B.1,B.2⟩:Rg),⟨rfl,rfl,rfl,rfl,trivial⟩,hI.pk [4,5,6,0,1,2] rfl rfl,(M.to rfl rfl),(aT.to rfl (km (km rfl))),hF⟩⟩
  intro ρ w hJ
  obtain ⟨Y,a3,aQ,T,Z,aR,aI,Q,hag,hI,b3,aV,hF⟩:=hJ
  obtain ⟨ρ,rfl⟩:=hag.form; clear hag
  unfold F52j2 at hF
  refine ab (rgn rfl (ac (ar hI 3 2 [slv E d.1.length J,slv T Q.length Z] isAgg132 sizeOf132 rfl rfl rfl rfl ?_)))
  refine bt hF (fun a0 bJ hF=>?_)
  refine ac (co 120 [.agg #[slv E d.1.length J,slv T Q.length Z]] (by kernel_rfl) (L120 _ (E.map fun b=>⟨b,0,none⟩) J d.1 (T.map fun b=>⟨b,0,none⟩) Z Q (hI.rowCells 4 rfl aO) (am rfl aO.big) (am rfl aO.cap) (hI.rowCells 5 rfl aV) (am rfl aV.big) (am rfl aV.cap) N _ bJ) ?_)
  rintro v w ⟨aW,aX,bR,rfl,hN,bS⟩
  have hI:=hI.join hN; clear hN
  refine pu (.tuple #[.agg #[slv E d.1.length J,slv aW a0.1.length aX],.bool a0.2]) rfl (pu (.agg #[slv E d.1.length J,slv aW a0.1.length aX]) rfl (pu (.bool a0.2) rfl (ac (bh hI [.slice none 0 0,.slice none 0 0] zeroValue132 rfl fun bT w hI=>ac (aq hI 0 2 [slv E d.1.length J,slv aW a0.1.length aX] sizeOf132 rfl rfl rfl rfl rfl (kh rfl) fun w hI=>pu (.bool a0.2) rfl (aa (ab (ab (ifE hF (fun aY hF=>?_) (fun aY hF=>?_))))))))))
  ·
   rw [aY]
   refine rgn rfl (pu kg rfl (pu kf rfl (aa (ai rfl (ak (ab (ab ?_)))))))
   have hG:=hF; rcases Bool.eq_false_or_eq_true aI with rfl | rfl
   ·
    have hF:=hG; clear hG
    refine ifE hF (fun _ hF=>?_) (fun h=>absurd rfl h)
    refine rgn rfl (pu (.pointer (some ⟨K,1,none⟩)) rfl (ac (ag hI 2 (slv Y a.2.1.length a3) isAgg130 rfl rfl rfl ?_)))
    refine pu (iv f) rfl (bt hF (fun bK b4 hF=>?_))
    obtain ⟨bL,rfl,bM⟩:=b3.at_ da (by decide) b4
    refine ac (be (f).toNat underlying130 sizeOf23 rfl rfl (Int.toNat_of_nonneg aF).symm (fa b4 rfl) ?_)
    refine pu (.pointer (some ⟨bL,(f).toNat * 2+1,none⟩)) rfl (ac (db hI 4 (iv bK.hi) isAgg3 rfl rfl (bM 1 _ rfl) ?_))
    refine ifE hF (fun aZ hF=>?_) (fun aZ hF=>?_)
    ·
     refine ac (di rfl rfl (fun _=>?_) (fun h=>absurd aZ h))
     refine pu kg rfl (puo kg ⟨rfl,rfl⟩ (pu kg rfl (aa (ah rfl (ab (rgn rfl (pu (iv 1) rfl (pu (iv 0) rfl (aa ?_)))))))))
     refine aj ?_
     replace hF:=Option.some.inj hF; subst hF
     exact ⟨.tuple #[iv 1,iv 0],Ret.r2 rfl rfl rfl,⟨rfl,hI.below⟩⟩
    refine ac (di rfl rfl (fun h=>absurd h aZ) (fun _=>?_))
    refine pu kf rfl (of_ rfl (pu kf rfl (aa (ai rfl (ak (ab (rgn rfl (pu (iv 2) rfl (pu (iv 0) rfl ?_)))))))))
    refine aa (aj ?_)
    replace hF:=Option.some.inj hF; subst hF
    exact ⟨.tuple #[iv 2,iv 0],Ret.r2 rfl rfl rfl,⟨rfl,hI.below⟩⟩
   have hF:=hG; clear hG
   refine ifE hF (fun h=>absurd h (by decide)) (fun _ hF=>?_)
   refine rgn rfl (pu (.pointer (some ⟨K,1,none⟩)) rfl (ac (ag hI 2 (slv Y a.2.1.length a3) isAgg130 rfl rfl rfl ?_)))
   refine pu (iv f) rfl (bt hF (fun bN b5 hF=>?_))
   obtain ⟨bO,rfl,bP⟩:=b3.at_ da (by decide) b5
   refine ac (be (f).toNat underlying130 sizeOf23 rfl rfl (Int.toNat_of_nonneg aF).symm (fa b5 rfl) ?_)
   refine pu (.pointer (some ⟨bO,(f).toNat * 2+1,none⟩)) rfl (ac (db hI 4 (iv bN.hi) isAgg3 rfl rfl (bP 1 _ rfl) ?_))
   refine ifE hF (fun b0 hF=>?_) (fun b0 hF=>?_)
   ·
    refine ac (di rfl rfl (fun _=>?_) (fun h=>absurd b0 h))
    refine pu kg rfl (puo kf ⟨rfl,rfl⟩ (pu kf rfl (aa (ai rfl (ak (ab (rgn rfl (pu (iv 2) rfl (pu (iv 0) rfl ?_)))))))))
    refine aa (aj ?_)
    replace hF:=Option.some.inj hF; subst hF
    exact ⟨.tuple #[iv 2,iv 0],Ret.r2 rfl rfl rfl,⟨rfl,hI.below⟩⟩
   refine ac (di rfl rfl (fun h=>absurd h b0) (fun _=>?_))
   refine pu kf rfl (of_ rfl (pu kf rfl (aa (ai rfl (ak (ab (rgn rfl (pu (iv 2) rfl (pu (iv 0) rfl ?_)))))))))
   refine aa (aj ?_)
   replace hF:=Option.some.inj hF; subst hF
   exact ⟨.tuple #[iv 2,iv 0],Ret.r2 rfl rfl rfl,⟨rfl,hI.below⟩⟩
  rw [(Bool.eq_false_iff.2 aY)]
  refine rgn rfl (pu kf rfl (pu kg rfl (aa (ah rfl (ab (rgn rfl (pu (iv 0) rfl (pu (iv 0) rfl (aa ?_)))))))))
  refine aj ?_
  replace hF:=Option.some.inj hF; subst hF
  exact ⟨.tuple #[iv 0,iv 0],Ret.r2 rfl rfl rfl,⟨rfl,hI.below⟩⟩
 refine ac (de rfl rfl (fun _=>?_) (fun h=>absurd h aK))
 refine aa (ah rfl (ab (rgn rfl (pu (iv a.2.2) rfl (pu (iv 0) rfl (pu (iv a.2.2) rfl (aa (aj ?_))))))))
 replace hF:=Option.some.inj hF; subst hF
 exact ⟨.tuple #[iv 0,iv a.2.2],Ret.r2 rfl rfl rfl,⟨rfl,hI.below⟩⟩


theorem L54 (w0:World) (j:Int) (k:Int) (l:Option Addr) (m:Nat) (d:List Ld) (o:Option Addr) (p:Nat) (e:List Ld) (q:Option Addr) (s:Nat) (f:List Sp) (a:Int) (u:Int) (x:Option Addr) (y:Nat) (t:List Int) (b:Int) (i:Int) (D:bi w0 l (al eLd d)) (E:d.length≤9223372036854775807) (F:d.length≤m) (G:bi w0 o (al eLd e)) (H:e.length≤9223372036854775807) (I:e.length≤p) (J:bi w0 q (al eSp f)) (K:f.length≤9223372036854775807) (L:f.length≤s) (T:bi w0 x (al dv t)) (U:t.length≤9223372036854775807) (V:t.length≤y) (N:Nat) (r:(Bool × Int)) (hF:F54 N j k d e f a u t b i=some r):bn Tryz.prog 54 [.agg (ql6 j k l d m o e p q f s a).toArray,.agg #[.int .i64 u,.slice x t.length y],.agg #[.int .i64 b,.int .i64 i]] w0 fun v w=>v=.tuple #[.bool r.1,.int .i64 r.2]∧Below w0.heap.size w0 w:=by
 refine az (n:=59) func54 rfl ntmps54 rfl ?_
 have hI:=Inv.start w0
 unfold F54 at hF
 refine ab (rgn rfl (ac (ca hI (ql6 j k l d m o e p q f s a) rfl fun B w hI=>ac (ca hI [iv u,.slice x t.length y] rfl fun a2 w hI=>ac (ca hI [iv b,iv i] rfl fun z w hI=>pu kf rfl (pu (iv 0) rfl (aa (ab (rgn rfl (ac (ar hI 2 6 (ql6 j k l d m o e p q f s a) isAgg28 sizeOf28 rfl rfl rfl rfl ?_)))))))))))
 refine ac (ar hI 1 2 [iv u,.slice x t.length y] isAgg57 sizeOf57 rfl rfl rfl rfl ?_)
 refine ac (ar hI 0 2 [iv b,iv i] isAgg65 sizeOf65 rfl rfl rfl rfl ?_)
 refine bt hF (fun g W hF=>?_)
 refine ac (bg hI 41 [.agg (ql6 j k l d m o e p q f s a).toArray,.agg #[iv u,.slice x t.length y],.agg #[iv b,iv i]] (.tuple #[iv g.1,iv g.2]) (by kernel_rfl) (L41 _ j k l m d o p e q s f a u x y t b i (D.inv0 hI) E F (G.inv0 hI) H I (J.inv0 hI) K L (T.inv0 hI) U V N _ W) fun w hI=>pu (.tuple #[iv g.1,iv g.2]) rfl (pu (iv g.1) rfl (pu (iv g.2) rfl (pu (iv g.1) rfl (pu (iv g.2) rfl (aa (ab (ab (rgn rfl (pu (iv g.2) rfl ?_))))))))))
 refine ifE hF (fun M hF=>?_) (fun M hF=>?_)
 ·
  refine ac (de rfl rfl (fun h=>absurd M h) (fun _=>?_))
  refine aa (ai rfl (ak (ab (rgn rfl (pu (.pointer (some ⟨z,0,none⟩)) rfl (ac (ag hI 0 (iv b) isAgg3 rfl rfl rfl ?_)))))))
  refine pu (.pointer (some ⟨B,5,none⟩)) rfl (ac (ag hI 2 (iv a) isAgg3 rfl rfl rfl ?_))
  refine ckE hF (fun X hF=>?_)
  refine ac (s_mul rfl rfl X ?_)
  refine ckE hF (fun Y hF=>?_)
  refine ac (dm rfl rfl Y ?_)
  refine pu (iv (b - (24 * a))) rfl (aa (dn (fun ρ w=>∃ (C:Bool),cd ρ [(3,.pointer (some ⟨B,0,none⟩)),(5,.pointer (some ⟨z,0,none⟩)),(8,iv g.1),(11,.bool C)]∧Inv [] w0 w [(some B,blk (ql6 j k l d m o e p q f s a) 28),(some z,blk [iv b,iv i] 65)]∧F54j1 j k d e f a b i N g C=some r) ?_ ?_))
  ·
   refine rgn rfl (pu (.pointer (some ⟨B,5,none⟩)) rfl (ac (ag hI 2 (iv a) isAgg3 rfl rfl rfl ?_)))
   refine ifE hF (fun O hF=>?_) (fun O hF=>?_)
   ·
    refine ac (di rfl rfl (fun _=>?_) (fun h=>absurd O h))
    refine pu kg rfl (sf 2 rfl (pu kg rfl (pu kg rfl (sf 8 rfl (pu kg rfl (pu kg rfl (aa ?_)))))))
    exact .inl ⟨rfl,⟨true,⟨rfl,rfl,rfl,rfl,trivial⟩,hI.pk [2,0] rfl rfl,hF⟩⟩
   refine ac (di rfl rfl (fun h=>absurd h O) (fun _=>?_))
   refine pu kf rfl (puo (iv (b - (24 * a))) ⟨rfl,rfl⟩ (ifE hF (fun P hF=>?_) (fun P hF=>?_)))
   ·
    refine aw rfl (cm rfl rfl (fun _=>?_) (fun h=>absurd P h))
    refine pu kg rfl (pu kg rfl (sf 8 rfl (pu kg rfl (pu kg rfl (aa ?_)))))
    exact .inl ⟨rfl,⟨true,⟨rfl,rfl,rfl,rfl,trivial⟩,hI.pk [2,0] rfl rfl,hF⟩⟩
   refine aw rfl (cm rfl rfl (fun h=>absurd h P) (fun _=>?_))
   refine pu kf rfl (pu kf rfl (aw rfl (ar hI 2 6 (ql6 j k l d m o e p q f s a) isAgg28 sizeOf28 rfl rfl rfl rfl ?_)))
   refine aw rfl (ar hI 1 2 [iv u,.slice x t.length y] isAgg57 sizeOf57 rfl rfl rfl rfl ?_)
   refine puo (iv (b - (24 * a))) ⟨rfl,rfl⟩ (puo (.pointer (some ⟨z,1,none⟩)) ⟨rfl,rfl⟩ (aw rfl (ag hI 0 (iv i) isAgg3 rfl rfl rfl ?_)))
   refine puo (.agg #[iv (b - (24 * a)),iv i]) ⟨rfl,(by kernel_rfl)⟩ (bt hF (fun Z a0 hF=>?_))
   refine aw rfl (bg hI 108 [.agg (ql6 j k l d m o e p q f s a).toArray,.agg #[iv u,.slice x t.length y],.agg #[iv (b - (24 * a)),iv i]] (iv Z) (by kernel_rfl) (L108 _ j k l m d o p e q s f a u x y t (b - (24 * a)) i (D.inv0 hI) E F (G.inv0 hI) H I (J.inv0 hI) K L (T.inv0 hI) U V N _ a0) fun w hI=>ifE hF (fun Q hF=>?_) (fun Q hF=>?_))
   ·
    refine aw rfl (fh rfl rfl (fun _=>?_) (fun h=>absurd Q h))
    refine pu kg rfl (pu kg rfl (aa ?_))
    exact .inl ⟨rfl,⟨true,⟨rfl,rfl,rfl,rfl,trivial⟩,hI.pk [2,0] rfl rfl,hF⟩⟩
   refine aw rfl (fh rfl rfl (fun h=>absurd h Q) (fun _=>?_))
   refine pu kf rfl (pu kf rfl (aa ?_))
   exact .inl ⟨rfl,⟨false,⟨rfl,rfl,rfl,rfl,trivial⟩,hI.pk [2,0] rfl rfl,hF⟩⟩
  intro ρ w hJ
  obtain ⟨C,hag,hI,hF⟩:=hJ
  obtain ⟨ρ,rfl⟩:=hag.form; clear hag
  unfold F54j1 at hF
  refine ab ?_
  have hG:=hF; rcases Bool.eq_false_or_eq_true C with rfl | rfl
  ·
   have hF:=hG; clear hG
   refine ifE hF (fun _ hF=>?_) (fun h=>absurd rfl h)
   refine rgn rfl (pu (iv g.1) rfl (ifE hF (fun R hF=>?_) (fun R hF=>?_)))
   ·
    refine ac (di rfl rfl (fun _=>?_) (fun h=>absurd R h))
    refine pu kg rfl (puo kg ⟨rfl,rfl⟩ (pu kg rfl (pu kg rfl (aw rfl (ar hI 0 6 (ql6 j k l d m o e p q f s a) isAgg28 sizeOf28 rfl rfl rfl rfl ?_)))))
    refine puo (.pointer (some ⟨z,0,none⟩)) ⟨rfl,rfl⟩ (aw rfl (ag hI 1 (iv b) isAgg3 rfl rfl rfl ?_))
    refine puo (.pointer (some ⟨z,1,none⟩)) ⟨rfl,rfl⟩ (aw rfl (ag hI 1 (iv i) isAgg3 rfl rfl rfl ?_))
    refine bt hF (fun A a1 hF=>?_)
    refine aw rfl (bg hI 117 [.agg (ql6 j k l d m o e p q f s a).toArray,iv b,iv i] (.bool A) (by kernel_rfl) (L117 _ j k l m d o p e q s f a b i (D.inv0 hI) E F (G.inv0 hI) H I (J.inv0 hI) K L N _ a1) fun w hI=>puo (.bool (!A)) ⟨rfl,rfl⟩ (pu (.bool (!A)) rfl (pu (.bool (!A)) rfl (pu (iv 0) rfl (aa (aj ?_))))))
    replace hF:=Option.some.inj hF; subst hF
    exact ⟨.tuple #[.bool (!A),iv 0],Ret.r2 rfl rfl rfl,⟨rfl,hI.below⟩⟩
   refine ac (di rfl rfl (fun h=>absurd h R) (fun _=>?_))
   refine pu kf rfl (of_ rfl (pu kf rfl (pu kf rfl (sf 7 rfl (pu kf rfl (pu kf rfl (pu (iv 0) rfl (aa (aj ?_)))))))))
   replace hF:=Option.some.inj hF; subst hF
   exact ⟨.tuple #[.bool false,iv 0],Ret.r2 rfl rfl rfl,⟨rfl,hI.below⟩⟩
  have hF:=hG; clear hG
  refine ifE hF (fun h=>absurd h (by decide)) (fun _ hF=>?_)
  refine rgn rfl (pu (iv g.1) rfl (ifE hF (fun S hF=>?_) (fun S hF=>?_)))
  ·
   refine ac (di rfl rfl (fun _=>?_) (fun h=>absurd S h))
   refine pu kg rfl (puo kf ⟨rfl,rfl⟩ (pu kf rfl (pu kf rfl (sf 7 rfl (pu kf rfl (pu kf rfl (pu (iv 0) rfl (aa (aj ?_)))))))))
   replace hF:=Option.some.inj hF; subst hF
   exact ⟨.tuple #[.bool false,iv 0],Ret.r2 rfl rfl rfl,⟨rfl,hI.below⟩⟩
  refine ac (di rfl rfl (fun h=>absurd h S) (fun _=>?_))
  refine pu kf rfl (of_ rfl (pu kf rfl (pu kf rfl (sf 7 rfl (pu kf rfl (pu kf rfl (pu (iv 0) rfl (aa (aj ?_)))))))))
  replace hF:=Option.some.inj hF; subst hF
  exact ⟨.tuple #[.bool false,iv 0],Ret.r2 rfl rfl rfl,⟨rfl,hI.below⟩⟩
 refine ac (de rfl rfl (fun _=>?_) (fun h=>absurd h M))
 refine aa (ah rfl (ab (rgn rfl (pu (iv g.2) rfl (pu kf rfl (pu (iv g.2) rfl (aa (aj ?_))))))))
 replace hF:=Option.some.inj hF; subst hF
 exact ⟨.tuple #[.bool false,iv g.2],Ret.r2 rfl rfl rfl,⟨rfl,hI.below⟩⟩


end Go.K
